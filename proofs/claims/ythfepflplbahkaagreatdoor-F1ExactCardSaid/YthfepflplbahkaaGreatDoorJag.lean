/- Several texts, joined: PgIa, PgHd, PgIb, PgIc, PgId, PgIe, PgSp, PgHe, PgPr, PgWd, PgHl, PgSh, PgTh, PgTi, PgTj, PgTk, PgNt, PgPa, PgTl, PgTm. -/
import Derived.Test.YthfepflplbahkaaGreatDoorJaf
import Derived.Shelf.Abstract
import Derived.Shelf.RegionOpen
import Derived.OwnWalkIn
import Derived.TacticsInMore
import Derived.LoopNIn
import Derived.LoopIn
set_option maxRecDepth 100000
set_option maxHeartbeats 8000000
namespace Go.Proofs.YthfepflplbahkaaGreatDoor
section
namespace Pg
open Go.RowKit Go.Lib
section
variable {D X F:Nat->Prop}{v fv tv:Value}{l f t:List Int}{g bm bf bt:Nat}{L:List Pg}{W0:World}
attribute [local go_sem] Oper.semAt_some
theorem OB.chg{w w':World}(h:OB w D v l)(hc:Chg X w w')(hX:∀ b,X b->∀ cs,¬ Blk w b cs 5):OB w' D v l:=by
 refine⟨h.oct,h.ex.imp id ?_⟩;rintro⟨b,c,e,d,a⟩;obtain⟨cs,k⟩:=a.kind;exact⟨b,c,e,d,a.chg hc fun x=>hX b x cs k⟩
structure Wk(W:World)(X F D:Nat->Prop)(g:Nat)(L:List Pg)(bm bf bt:Nat)(fv tv:Value)(f t:List Int):Prop where
 map:bZ W F D g L
 ord:Ord (ens L)
 few:∀ es∈ens L,es.length<=32
 big:L.length<=100000000
 xF:∀ b,X b->¬ F b
 xU:∀ b,X b->∀ cs,¬ Blk W b cs 5
 boxm:Blk W bm [.pointer (some ⟨g,0,none⟩)] 86/\¬ X bm
 boxf:Blk W bf [fv] 96/\¬ X bf
 boxt:Blk W bt [tv] 96/\¬ X bt
 byf:∃ Df,OB W Df fv f
 byt:∃ Dt,OB W Dt tv t
theorem Wk.at{W V:World}(h:Wk W X F D g L bm bf bt fv tv f t)(hc:Chg X W V):bZ V F D g L/\By V fv f/\By V tv t/\V.cell? ⟨bm,0,none⟩=some (.pointer (some ⟨g,0,none⟩))/\V.cell? ⟨bf,0,none⟩=some fv/\V.cell? ⟨bt,0,none⟩=some tv:=by
 obtain⟨b,hf⟩:=h.byf;obtain⟨c,a⟩:=h.byt;exact⟨h.map.chg hc h.xF h.xU,(hf.chg hc h.xU).by,(a.chg hc h.xU).by,(h.boxm.1.chg hc h.boxm.2).cell (i:=0) rfl,(h.boxf.1.chg hc h.boxf.2).cell (i:=0) rfl,(h.boxt.1.chg hc h.boxt.2).cell (i:=0) rfl⟩
theorem oe{α:Type}{l:List α}{a b:Nat}{x:α}(h:x∈cut l a b):x∈l:=List.mem_of_mem_drop (List.mem_of_mem_take h)
theorem lP{α β:Type}(l:List α)(f:α->List β)(k:Nat)(x:α)(h:l[k]? = some x):(l.take (k + 1)).flatMap f=(l.take k).flatMap f ++ f x:=by
 rw[List.take_add_one,h]; simp
theorem xa{α β:Type}(l:List α)(f:α->List β)(k j:Nat)(x:α)(y:β)(h:l[k]? = some x)(a:(f x)[j]? = some y):(l.flatMap f)[((l.take k).flatMap f).length + j]? = some y:=by
 have b:=(List.getElem?_eq_some_iff.1 h).1
 have e:l.flatMap f=(l.take k).flatMap f ++ (f x ++ (l.drop (k + 1)).flatMap f):=by
  conv=>lhs; rw[<- List.take_append_drop (k + 1) l,List.flatMap_append,lP l f k x h]
  rw[List.append_assoc]
 rw[e,List.getElem?_append_right (by omega),Nat.add_sub_cancel_left,List.getElem?_append_left (List.getElem?_eq_some_iff.1 a).1];exact a
theorem xL{Tp:TypeId->Prop}(K:Wk W0 X F D g L bm bf bt fv tv f t) :
  Itr Tp 124 #[.pointer (some ⟨bm,0,none⟩),.pointer (some ⟨bf,0,none⟩),.pointer (some ⟨bt,0,none⟩)] (wlk (ens L) f t).length (fun i args _ _=>∃ e,(wlk (ens L) f t)[i]? = some e/\args=#[.agg #[e.kv,e.vv]]) (fun V=>Chg X W0 V):=by
 intro l J Jx W hJ hJx ab hY h0;obtain⟨Am,hf,ht,cm,cf,ct⟩:=K.at (ab 0 W h0);have tS:=Cp Am K.ord hf ht K.big;obtain⟨Q,hQ⟩:∃ Q,Hid (cut L (pgi (ens L) f) (fV (ens L) t)=Q):=⟨_,rfl⟩
 rw[hQ.out] at tS
 have hQe:Hid (wlk (ens L) f t=(ens Q).flatMap fun es=>wth es f t):=by
  show _=_
  rw[<- hQ.out];unfold wlk cut ens;rw[List.map_take,List.map_drop]
 have hQm:∀ p∈Q,p∈L:=fun p hp=>by rw[<- hQ.out] at hp; exact List.mem_of_mem_drop (List.mem_of_mem_take hp)
 obtain⟨E,hE⟩:∃ E,Hid (wlk (ens L) f t=E):=⟨_,rfl⟩
 rw[hE.out] at hY ⊢
 have hQe2:Hid (E=(ens Q).flatMap fun es=>wth es f t):=by show _=_; rw[<- hE.out]; exact hQe.out
 refine(callsIn_wide (n:=0)).1 ?_
 refine callsIn_of_wp Tryz.func124 rfl trivial ?_ rfl;simp only[Tryz.ntmps124,List.size_toArray,List.length_cons,List.length_nil,Nat.reduceAdd,Nat.reduceSub,Array.replicate_succ,Array.replicate_zero,List.push_toArray,List.append_toArray,List.nil_append,List.cons_append];gi_wp2_with (refine⟨trivial,rfl,?_⟩; gi_at_call 125; refine(callsIn_wide.2 tS).mono ?_; rintro e' w1 ⟨v1,rfl,hSp,hB1⟩; obtain⟨ao,cc,rfl,hc1,hc2,hat⟩:=hSp.ex);have J1:=hJ 0 _ _ h0 (Rec.of hB1);clear tS h0 cm cf ct hf ht hSp
 have hat:Hid _:=hat
 have hWl:W.heap.size<=w1.heap.size:=hB1.size
 have hCw:Hid (Chg X W0 w1):=ab 0 _ J1;obtain⟨n,hnn⟩:∃ n,Hid (Q.length=n):=⟨_,rfl⟩
 rw[hnn.out] at hc1 ⊢
 have hFlt:∀ b,F b->b < W0.heap.size/\¬ X b:=fun b hb=>⟨K.map.lt hb,fun x=>K.xF b x hb⟩
 have hcell:Hid (∀ j p,Q[j]? = some p->∀ V,Chg X W0 V->∃ b o,ao=some ⟨b,o,none⟩/\V.cell? ⟨b,o + j,none⟩=some p.v):=fun j p hj V hV=>by
  obtain⟨b,o,e,hF,hc⟩:=hat.out j p hj;obtain⟨h1,h2⟩:=hFlt b hF;refine⟨b,o,e,?_⟩;rw[World.cell?_of_block (w:=W0) (a:=⟨b,o + j,none⟩) (hV.same b h1 h2),<- World.cell?_of_block (w:=W0) (w':=w1) (a:=⟨b,o + j,none⟩) (hCw.out.same b h1 h2)];exact hc
 gi_loopw [14] (fun ti wr=>∃ a:Nat,a<=n/\ti=.int .i64 a/\W.heap.size<=wr.heap.size/\J ((((ens Q).take a).flatMap fun es=>wth es f t).length) wr) (fun ti _=>n - (intOf ti).toNat)
 case atStart=>exact⟨0,Nat.zero_le _,rfl,hWl,J1⟩
 case round =>
  clear J1 hWl;obtain⟨a,ha,rfl,hsz,ad⟩:=hrel;by_cases hlt:a < n
  ·obtain⟨p,hp⟩:∃ p,Q[a]? = some p:=⟨Q[a]'(by have:=hnn.out; omega),List.getElem?_eq_getElem _⟩
   obtain⟨b,o,rfl,cP⟩:=hcell.out a p hp wr (ab _ _ ad);obtain⟨Ap,hf,ht,cm,cf,ct⟩:=K.at (ab _ _ ad);have ah:=hQm p (List.mem_of_getElem? hp)
   have hpL:p.es∈ens L:=List.mem_map.2 ⟨p,ah,rfl⟩;have hps:=K.few _ hpL;obtain⟨pj,hpj⟩:=List.getElem?_of_mem hpL;have tW:=xI (Ap.cO p ah).1 (K.ord.page hpj) hf ht (by omega)
   have z1:(a:Int) < n:=by omega
   simp only[Pg.v] at cP tW;gi_wp2_with (refine⟨trivial,rfl,?_⟩; gi_at_call 126; refine(callsIn_wide.2 tW).mono ?_; rintro e' w2 ⟨v2,rfl,hEs,hB2⟩; obtain⟨ao2,cc2,rfl,hd1,hd2,aa⟩:=hEs.ex);have J2:=hJ _ _ _ ad (Rec.of hB2)
   have hsz2:W.heap.size<=w2.heap.size:=Nat.le_trans hsz hB2.size
   have aa:Hid _:=aa
   have hCw2:Hid (Chg X W0 w2):=ab _ _ J2;have hpF:=(K.map.cO p ah).2;obtain⟨es,ai⟩:∃ es,Hid (wth p.es f t=es):=⟨_,rfl⟩
   rw[ai.out] at hd1 aa ⊢;obtain⟨m,hmm⟩:∃ m,Hid (es.length=m):=⟨_,rfl⟩
   rw[hmm.out] at hd1 ⊢;obtain⟨bs,hbs⟩:∃ bs,Hid ((((ens Q).take a).flatMap fun es=>wth es f t).length=bs):=⟨_,rfl⟩
   rw[hbs.out] at J2
   have ag:Hid (∀ j e,es[j]? = some e->∀ V,Chg X W0 V->∃ o,ao2=some ⟨p.b,o,none⟩/\V.cell? ⟨p.b,o + j * 2,none⟩=some e.kv/\V.cell? ⟨p.b,o + j * 2 + 1,none⟩=some e.vv):=fun j e hj V hV=>by
    obtain⟨o,e',hk,hv⟩:=aa.out j e hj;obtain⟨h1,h2⟩:=hFlt p.b hpF
    have e1:V.heap[p.b]? = w2.heap[p.b]? := (hV.same p.b h1 h2).trans (hCw2.out.same p.b h1 h2).symm;exact⟨o,e',by rw[World.cell?_of_block (w:=w2) (a:=⟨p.b,o + j * 2,none⟩) e1]; exact hk,by rw[World.cell?_of_block (w:=w2) (a:=⟨p.b,o + j * 2 + 1,none⟩) e1]; exact hv⟩
   have hEat:Hid (∀ j e,es[j]? = some e->E[bs + j]? = some e):=fun j e hj=>by
    rw[hQe2.out,<- hbs.out];exact xa (ens Q) (fun es=>wth es f t) a j p.es e (rV hp) (by rw[ai.out]; exact hj)
   clear hEs cm cf ct hf ht tW aa hB2 cP;gi_loopw [23] (fun ti wv=>∃ c:Nat,c<=m/\ti=.int .i64 c/\W.heap.size<=wv.heap.size/\J (bs + c) wv) (fun ti _=>m - (intOf ti).toNat)
   case atStart=>exact⟨0,Nat.zero_le _,rfl,hsz2,J2⟩
   case round =>
    clear J2 hsz2;rename World=>wv
    obtain⟨c,hc,rfl,ac,af⟩:=hrel;by_cases hltc:c < m
    ·obtain⟨e,he⟩:∃ e,es[c]? = some e:=⟨es[c]'(by have:=hmm.out; omega),List.getElem?_eq_getElem _⟩
     obtain⟨o2,rfl,ck,cv⟩:=ag.out c e he wv (ab _ _ af)
     have z2:(c:Int) < m:=by omega
     have hem:e∈p.es:=by
      have h1:=List.mem_of_getElem? he;rw[<- ai.out] at h1;exact oe h1
     have hEn:=((K.at (ab _ _ af)).1.cO p ah).1.ea e hem;have hEi:=hEat.out c e he
     have hbE:bs + c < E.length:=(List.getElem?_eq_some_iff.1 hEi).1;obtain⟨ekv,ekl,evv,evl⟩:=e;obtain⟨ak,nk,hk1⟩:=hEn.k.shape;obtain⟨av,nv,hv1⟩:=hEn.v.shape;simp only at hk1 hv1;subst hk1 hv1;have B3:=aC wv [.slice ak ekl.length nk,.slice av evl.length nv] 196;have hb3:=ae wv (.cells #[.slice ak ekl.length nk,.slice av evl.length nv] 196);have k3:=B3.cell (i:=0) rfl;have v3:=B3.cell (i:=1) rfl;obtain⟨fn,tmps,assign,body,hy,hR⟩:=hY (bs + c) #[.agg #[.slice ak ekl.length nk,.slice av evl.length nv]] wv _ hbE af ac hb3 ⟨_,hEi,rfl⟩;have hs3:=hb3.size;clear hEn B3 hb3 he hem hEi;gi_wp2;refine⟨rfl,hR.mono ?_⟩;rintro e' W4 ⟨hk4,⟨rfl,hJ4⟩ | ⟨rfl,hJ4⟩⟩
     ·gi_wp2;go_roundw
      case rel=>exact⟨c + 1,by omega,by go_num,Nat.le_trans (Nat.le_trans ac hs3) hk4.size,hJ4⟩
      case measure=>simp[intOf]; omega
     ·gi_wp2;refine bodyPost_ret (results_none rfl _ _ _) rfl ?_
      exact⟨⟨_,rfl⟩,Nat.le_trans (Nat.le_trans ac hs3) hk4.size,.inr ⟨bs + c,hbE,hJ4⟩⟩
    ·have hcm:c=m:=by omega
     have HJ:Hid (J ((((ens Q).take (a + 1)).flatMap fun es=>wth es f t).length) wv):=by
      show J _ wv
      rw[lP (ens Q) (fun es=>wth es f t) a p.es (rV hp),List.length_append,hbs.out,ai.out,hmm.out,<- hcm];exact af
     have z2:¬ ((c:Int) < m):=by omega
     have HC:Hid _:=hcm;clear hcm af;gi_wp2;go_roundw
     case rel=>exact⟨a + 1,by omega,by go_num,ac,HJ.out⟩
     case measure=>simp[intOf]; omega
  ·have han:a=n:=by omega
   have HJ:Hid (J E.length wr):=by
    show J _ wr
    have:(ens Q).take a=ens Q:=List.take_of_length_le (by simp[ens]; have:=hnn.out; omega);rw[this,<- hQe2.out] at ad;exact ad
   have z1:¬ ((a:Int) < n):=by omega
   have HA:Hid _:=han;clear han ad;gi_wp2;go_end0;exact⟨⟨_,rfl⟩,hsz,.inl HJ.out⟩
end
end Pg
end
section
namespace Pg
open Go.RowKit Go.Lib
section
variable {F:Fence} {n:Nat} {P:Program} {ops:Array Oper} {Q:Exit->Act->World->Prop} {md:Region.Mode} {S:World->Prop}
section
variable {j i:Nat}{o oi:Oper}{v:Value}{a:Act}{K:Act->World->Prop}{w:World}
def inH(F:Fence)(n:Nat)(P:Program)(md:Region.Mode)(ops:Array Oper)(Q:Exit->Act->World->Prop)(S:World->Prop):Nat->Array Bool->Act->World->Prop
 | 0,listed,a,w=>Region.ready md ops listed=[]/\Q .normal a w
 | fuel + 1,listed,a,w =>
  (Region.ready md ops listed=[]->Q .normal a w) /\
  ∀ i∈Region.ready md ops listed,wpOpIn F n P ops Q i (fun a' w'=>S w'/\inH F n P md ops Q S fuel (listed.setIfInBounds i true) a' w') a w
theorem pY:∀ (fuel:Nat) (listed:Array Bool) (a:Act) (w:World),inH F n P md ops Q S fuel listed a w->wpAnyIn F n P md ops Q fuel listed a w
 | 0,_,_,_,h=>h
 | fuel + 1,_,_,_,h=>⟨h.1,fun i hi=>wpOpIn_mono (fun a' w' h'=>pY fuel _ a' w' h'.2) (h.2 i hi)⟩
def kU(ops:Array Oper):Bool:=ops.all fun o=>match o.op with | .defer _=>false | .select .. => false | _=>true
theorem gq(h:kU ops=true)(d:ops[j]? = some o):(∀ c,o.op≠.defer c)/\(∀ cs b,o.op≠.select cs b):=by
 unfold kU at h;rw[Array.all_eq_true] at h;obtain⟨a,rfl⟩:=Array.getElem?_eq_some_iff.1 d;have:=h j a;refine⟨fun c e => ?_,fun cs b e => ?_⟩
 ·rw[e] at this; simp at this
 ·rw[e] at this; simp at this
theorem kh(hF:∀ f,F.fn f)(b:kU ops=true)(hi:ops[i]? = some o)(hy:YieldsIf P ops S o v a)(hS:S w)(h:K (a.put o.dst v) w):wpOpIn F n P ops Q i K a w:=by
 unfold wpOpIn;simp only[hi];rcases hy with⟨hw,hv⟩ | ⟨hw,rfl⟩
 ·simp only[hw,if_true,Oper.wpIn,Oper.semAt_eq F.round a.eval o (gq b hi).1,hv w hS,Oper.uponIn];exact⟨fun f _=>hF f,h⟩
 ·simp only[hw,Bool.false_eq_true,if_false]; exact⟨fun f _=>hF f,h⟩
theorem Cl{g:Oper}(hF:∀ f,F.fn f)(B:kU ops=true)(z:ops[j]? = some g)(s:oi.apart ops g=true)(q:∀ cs b,oi.op≠.select cs b)(o:∀ c a w,Q (.panic c) (a.put oi.dst v) w->Q (.panic c) a w)(hy:YieldsIf P ops S oi v a)(h:wpOpIn F n P ops Q j K (a.put oi.dst v) w) :
  wpOpIn F n P ops Q j (fun a' w'=>YieldsIf P ops S oi v a'/\K (a'.put oi.dst v) w') a w:=by
 obtain⟨A,i,y⟩:=Oper.apart_spec s;obtain⟨t,p⟩:=gq B z
 have keep:∀ (a:Act),YieldsIf P ops S oi v a->∀ u,YieldsIf P ops S oi v (a.put g.dst u):=fun a hy u =>
  hy.of_same (execOp_put oi q a g.dst u y) (wanted_put oi a g.dst u y)
 have k:∀ d,YieldsIf P ops S oi v { a with defers:=d :: a.defers }:=fun d=>hy.of_same rfl rfl
 unfold wpOpIn at *;simp only[z] at *;rw[wanted_put g a oi.dst v A] at h;split
 ·rename_i hw;simp only[hw,if_true] at h;unfold Oper.wpIn at *;refine⟨fun f _=>hF f,?_⟩;have h:=h.2;rw[Oper.semAt_eq _ _ _ t,execOp_put g p a oi.dst v A] at h;rw[Oper.semAt_eq _ _ _ t];generalize (execOp a.eval g).run P w=r at *
  cases r with
  | ok x w' =>
   cases x<;>simp only[Oper.uponIn] at h ⊢
   case value u=>exact⟨keep a hy u,by rw[<- Act.put_comm a v u i]; exact h⟩
   case skip=>exact⟨keep a hy _,by rw[<- Act.put_comm a v undef i]; exact h⟩
   case defer d =>
    refine⟨keep _ (k d) _,?_⟩;rw[<- Act.put_comm _ v undef i,<- Act.put_defers];exact h
   case enter f args =>
    refine⟨h.1,CallsIn.mono h.2 fun e m he => ?_⟩
    cases e with
    | returned u=>exact⟨keep a hy u,by rw[<- Act.put_comm a v u i]; exact he⟩
    | panicked c=>exact o _ _ _ he
    | outgrown=>exact he
   case row row args=>exact⟨h.1,RowsIn.mono h.2 fun u m he=>⟨keep a hy u,by rw[<- Act.put_comm a v u i]; exact he⟩⟩
   case round l f tmps assign body =>
    refine⟨h.1,RoundIn.mono h.2 fun e m he => ?_⟩
    cases e with
    | returned u=>exact⟨keep a hy u,by rw[<- Act.put_comm a v u i]; exact he⟩
    | panicked c=>exact o _ _ _ he
    | outgrown=>exact he
  | halt x w' =>
   cases x<;>simp only[Oper.uponIn] at h ⊢
   case panic u=>exact o _ _ _ h
 ·rename_i hw;simp only[hw] at h;exact⟨fun f _=>hF f,keep a hy _,by rw[<- Act.put_comm a v undef i]; exact h.2⟩
theorem AY(hF:∀ f,F.fn f)(x:kU ops=true)(hi:ops[i]? = some oi)(D:∀ c a w,Q (.panic c) (a.put oi.dst v) w->Q (.panic c) a w) :
  ∀ (fuel:Nat) (listed:Array Bool) (a:Act) (w:World),
   (∀ j oj,ops[j]? = some oj->j≠i->listed.getD j true=false->(∀ e∈oj.after,Region.binds md e=true->e.on≠i)->oi.apart ops oj=true) ->
   i∈Region.ready md ops listed->YieldsIf P ops S oi v a->S w ->
   inH F n P md ops Q S fuel (listed.setIfInBounds i true) (a.put oi.dst v) w->inH F n P md ops Q S (fuel + 1) listed a w:=by
 intro fuel
 induction fuel with
 | zero =>
  intro listed a w _ m hy hS H;refine⟨fun h=>(by rw[h] at m; cases m),fun j y => ?_⟩;by_cases b:j=i
  ·subst b; exact kh hF x hi hy hS ⟨hS,H⟩
  ·have:=ready_mono y b;rw[H.1] at this
   cases this
 | succ fuel ih =>
  intro listed a w d m hy hS H;refine⟨fun h=>(by rw[h] at m; cases m),fun j y => ?_⟩;by_cases b:j=i
  ·subst b; exact kh hF x hi hy hS ⟨hS,H⟩
  ·have o:=H.2 j (ready_mono y b);obtain⟨l,oj,r,t⟩:=mem_ready.1 y
   have q:∀ e∈oj.after,Region.binds md e=true->e.on≠i:=fun e he hb heq=>by
    have o:=t e he hb;have C:=(mem_ready.1 m).1;rw[heq] at o;rcases Nat.lt_or_ge i listed.size with z | z
    ·simp[z] at C o; rw[C] at o; cases o
    ·simp[Array.getElem?_eq_none z] at o
   have G:=Cl hF x r (d j oj r b l q) (gq x hi).2 D hy o
   have g:∀ k ok,ops[k]? = some ok->k≠i->(listed.setIfInBounds j true).getD k true=false ->
     (∀ e∈ok.after,Region.binds md e=true->e.on≠i)->oi.apart ops ok=true:=fun k ok E A s B=>by
    refine d k ok E A ?_ B;by_cases p:j=k
    ·subst p; exact l
    ·rw[getD_set_ne true p] at s; exact s
   refine wpOpIn_mono (fun J I u=>⟨u.2.1,ih (listed.setIfInBounds j true) J I g (ready_mono m (Ne.symm b)) u.1 u.2.1 ?_⟩) G;rw[Array.setIfInBounds_comm _ _ b];exact u.2.2
end
end
section
variable {ops:Array Oper} {Q:Exit->Act->World->Prop} {S:World->Prop} {fuel:Nat} {listed:Array Bool} {a:Act} {w:World} {l n:Nat}
section
variable {Qc R:Ending->World->Prop}{S':World->Prop}
theorem Dw{id:Nat}(hm:Tryz.prog.follows .mixedOrders=true)(h:inH (Fence.wide.inRound l) n Tryz.prog .any ops Q S ops.size (Array.replicate ops.size false) a w.drew):(Code.region id ops true).wpIn (Fence.wide.inRound l) n Tryz.prog Q a w :=
 wpIn_region_any hm (pY _ _ _ _ h)
theorem lV(i:Nat)(d:Option Tmp)(v:Value)(j:kU ops=true)(hc:gN ops listed a i d=true)(hy:∀ w',S w'->(execOp a.eval (ops.getD i default)).run Tryz.prog w'=.ok (.value v) w')(f:∀ c a w,Q (.panic c) (a.put d v) w->Q (.panic c) a w)(hS:S w)(h:inH (Fence.wide.inRound l) n Tryz.prog .any ops Q S fuel (listed.setIfInBounds i true) (a.put d v) w):inH (Fence.wide.inRound l) n Tryz.prog .any ops Q S (fuel + 1) listed a w:=by
 simp only[gN,Bool.and_eq_true,decide_eq_true_eq] at hc;obtain⟨⟨⟨⟨⟨_,e⟩,m⟩,b⟩,k⟩,g⟩:=hc;subst g;exact AY (fun _=>trivial) j (bp b) f fuel listed a w (Region.free_spec (bp b) e) (by simpa using m) (.inl ⟨k,hy⟩) hS h
theorem rz(i:Nat)(d:Option Tmp)(v:Value)(T:TypeId)(k g o:Nat)(m:kU ops=true)(hc:gN ops listed a i d=true)(e:(ops.getD i default).op=.load T (.tmp k))(p:a.eval (.tmp k)=.pointer (some ⟨g,o,none⟩))(j:∀ w',S w'->(loadVar T ⟨g,o,none⟩).run Tryz.prog w'=.ok v w')(f:∀ c a w,Q (.panic c) (a.put d v) w->Q (.panic c) a w)(hS:S w)(h:inH (Fence.wide.inRound l) n Tryz.prog .any ops Q S fuel (listed.setIfInBounds i true) (a.put d v) w):inH (Fence.wide.inRound l) n Tryz.prog .any ops Q S (fuel + 1) listed a w :=
 lV i d v m hc (fun w' b=>jt k e p (j w' b)) f hS h
theorem yI(i:Nat)(d:Option Tmp)(f:FuncId)(args:Array Value)(r:kU ops=true)(hc:eZ ops listed a i d=true)(c:(execOp a.eval (ops.getD i default)).run Tryz.prog w=.ok (.enter f args) w)(b:Calls Tryz.prog f args w Qc)(q:∀ e w',Qc e w'->∃ v,e=.returned v/\S w'/\inH (Fence.wide.inRound l) n Tryz.prog .any ops Q S fuel (listed.setIfInBounds i true) (a.put d v) w') :
  inH (Fence.wide.inRound l) n Tryz.prog .any ops Q S (fuel + 1) listed a w:=by
 simp only[eZ,Bool.and_eq_true,decide_eq_true_eq] at hc;obtain⟨⟨⟨o,k⟩,t⟩,p⟩:=hc;subst p;refine⟨fun s=>absurd (o▸s) (by simp),fun j m => ?_⟩;rw[o] at m;obtain rfl:j=i:=by simpa using m
 unfold wpOpIn;rw[bp k];simp only[t,if_true,Oper.wpIn];refine⟨fun _ _=>trivial,?_⟩;rw[Oper.semAt_eq _ _ _ (gq r (bp k)).1,c];refine⟨fun h=>(by cases h),CallsIn.inRound l (callsIn_wide.2 (b.mono fun e w' he => ?_))⟩;obtain⟨v,rfl,g,hw⟩:=q e w' he;exact⟨g,hw⟩
theorem D1(i:Nat)(d:Option Tmp)(f:Nat)(args:Array Value)(t:kU ops=true)(hc:eZ ops listed a i d=true)(b:(execOp a.eval (ops.getD i default)).run Tryz.prog w=(Instr.yield f args).run Tryz.prog w)(hy:YieldAt Fence.wide 0 Tryz.prog f args w R)(s:∀ e w',R e w'->∃ v,e=.returned v/\S w'/\inH (Fence.wide.inRound l) n Tryz.prog .any ops Q S fuel (listed.setIfInBounds i true) (a.put d v) w') :
  inH (Fence.wide.inRound l) n Tryz.prog .any ops Q S (fuel + 1) listed a w:=by
 simp only[eZ,Bool.and_eq_true,decide_eq_true_eq] at hc;obtain⟨⟨⟨q,m⟩,x⟩,r⟩:=hc;subst r;obtain⟨fn,tmps,assign,body,hy,p⟩:=hy;refine⟨fun u=>absurd (q▸u) (by simp),fun j o => ?_⟩;rw[q] at o;obtain rfl:j=i:=by simpa using o
 unfold wpOpIn;rw[bp m];simp only[x,if_true,Oper.wpIn];refine⟨fun _ _=>trivial,?_⟩;rw[Oper.semAt_eq _ _ _ (gq t (bp m)).1,b,hy]
 have g:RoundIn (Fence.wide.inRound l) (n - 1) Tryz.prog f fn tmps assign body w R:=⟨p.1,fun c cs _=>p.2 c cs (fun _ h=>by cases h)⟩
 refine⟨fun h=>(by cases h),g.mono fun e w' he => ?_⟩;obtain⟨v,rfl,k,hw⟩:=s e w' he;exact⟨k,hw⟩
theorem yL(b:Region.ready .any ops listed=[])(h:Q .normal a w):inH (Fence.wide.inRound l) n Tryz.prog .any ops Q S fuel listed a w:=by
 cases fuel with
 | zero=>exact⟨b,h⟩
 | succ k=>exact⟨fun _=>h,by rw[b]; simp⟩
theorem FU(hs:∀ w,S' w->S w):∀ {fuel:Nat} {listed:Array Bool} {a:Act} {w:World},inH (Fence.wide.inRound l) n Tryz.prog .any ops Q S' fuel listed a w->inH (Fence.wide.inRound l) n Tryz.prog .any ops Q S fuel listed a w
 | 0,_,_,_,h=>h
 | _ + 1,_,_,_,h=>⟨h.1,fun i hi=>wpOpIn_mono (fun _ _ h'=>⟨hs _ h'.1,FU hs h'.2⟩) (h.2 i hi)⟩
end
end
end Pg
end
section
namespace Pg
open Go.RowKit Go.Lib
section
variable {W W' w:World}{D:Nat->Prop}{v:Value}{l:List Int}{E:List En}{args lb:Array Value}{g:Nat}{cs:List Value}{Rd:World → Prop}
attribute [local go_sem] Oper.semAt_some
def ArC(E:List En)(i:Nat)(args:Array Value)(n:Nat)(V:World):Prop :=
 ∃ e kv vv s,E[i]? = some e/\args=#[kv,vv]/\OB V (fun b=>n<=b/\b < s) kv e.kl/\OB V (s <= ·) vv e.vl/\n<=s
def ArE(E:List En)(i:Nat)(args:Array Value)(_:Nat)(_:World):Prop:=∃ e,E[i]? = some e/\args=#[.agg #[e.kv,e.vv]]
theorem OB.cel(h:OB W D v l)(hc:Cel W W'):OB W' D v l:=by
 refine⟨h.oct,h.ex.imp id ?_⟩;rintro⟨b,c,e,hd,hR⟩;obtain⟨cs,k⟩:=hR.kind;exact⟨b,c,e,hd,hR.same ((hc.same b _ k.blk rfl).trans k.blk.symm)⟩
theorem ArC.cel{i:Nat}{n:Nat}{V:World}(h:ArC E i args n V)(hc:Cel V W):ArC E i args n W:=by
 obtain⟨e,kv,vv,s,h1,h2,h3,h4,h5⟩:=h;exact⟨e,kv,vv,s,h1,h2,h3.cel hc,h4.cel hc,h5⟩
theorem jf(c:Blk w g [v] 166):(loadVar 166 ⟨g,0,none⟩).run Tryz.prog w=.ok v w:=by
 have c:=c.cell (i:=0) rfl;go_simp
theorem ld_b{o:Nat}(c:w.cell? ⟨g,o,none⟩=some v):(loadVar 96 ⟨g,o,none⟩).run Tryz.prog w=.ok v w:=by go_simp
theorem OB.lt'(h:OB w D v l):OB w (fun b=>D b/\b < w.heap.size) v l:=by
 refine⟨h.oct,h.ex.imp id ?_⟩;rintro⟨b,c,e,hd,hR⟩;exact⟨b,c,e,⟨hd,hR.lt⟩,hR⟩
theorem FN{a:Act}{o:Oper}{f x y l:Nat}{t1 t2:TypeId}{u:Value}(ho:o.op=.call { callee:=.value (.tmp f),args:=#[.tmp x,.tmp y],argTypes:=#[t1,t2] })(hf:a.eval (.tmp f)=.func (.yield l) #[] #[])(hx:a.eval (.tmp x)=u)(hy:a.eval (.tmp y)=v) :
  (execOp a.eval o).run Tryz.prog w=(Instr.yield l #[u,v]).run Tryz.prog w:=by
 have ab:a.tmps[x]?.getD undef=u:=by simpa[Act.eval] using hx
 have aa:a.tmps[y]?.getD undef=v:=by simpa[Act.eval] using hy
 simp only[execOp,ho,resolve,hf];simp[go_sem,ab,aa,invoke]
theorem eR{B:Nat}{b:Nat}{t:TypeId}(h:Blk W b cs t)(hr:Rec B W W'):Blk W' b cs t:=⟨hr.same b _ h.blk (.inr rfl)⟩
theorem wj{Tp : TypeId → Prop}{gf bw N:Nat}{D:Nat → Prop}(IT : Itr Tp gf lb N (ArE E) Rd)(eg : ∀ args w, (callFunc gf args).run Tryz.prog w = .ok (.enter gf args) w)(hT : ¬ Tp 166)(hTe : ¬ Tp 196)(hbw : ∀ V, Rd V → V.cell? ⟨bw, 0, none⟩ = some (.func (.func gf) #[] lb))(hEn : ∀ V, Rd V → ∀ e ∈ E, EnA V D e)(hbig : ∀ e ∈ E, e.kl.length ≤ 1000000000 ∧ e.vl.length ≤ 1000000000) :
    Itr Tp 123 #[.pointer (some ⟨bw, 0, none⟩)] N (ArC E) Rd := by
  intro l J Jx W hJ hJx ag hY h0;have cw := hbw _ (ag 0 W h0);have J1 := hJ 0 _ _ h0 (Rec.of (ae W (.cells #[.func (.yield l) #[] #[]] 166)));have cw1 := hbw _ (ag 0 _ J1);have Y1 := aC W [.func (.yield l) #[] #[]] 166;refine(callsIn_wide (n := 0)).1 ?_
  refine callsIn_of_wp_marks Tryz.func123 rfl trivial ?_ rfl;simp only[Tryz.ntmps123, List.size_toArray, List.length_cons, List.length_nil, Nat.reduceAdd, Nat.reduceSub, Array.replicate_succ, Array.replicate_zero, List.push_toArray, List.append_toArray, List.nil_append, List.cons_append];gi_wp2
  have hs1 : (W.alloc (.cells #[.func (.yield l) #[] #[]] 166)).heap.size = W.heap.size + 1 := by simp
  generalize W.alloc (.cells #[.func (.yield l) #[] #[]] 166) = W1 at *;refine ix IT (by rfl) eg (fun i args n V V' h _ => h) (fun i args n V h => by obtain⟨e, _, rfl⟩:= h; rfl)
    (fun i V => J i V ∧ W1.heap.size ≤ V.heap.size ∧ Blk V W.heap.size [.func (.yield l) #[] #[]] 166)
    (fun c i V => c = .ret ∧ Jx i V ∧ W1.heap.size ≤ V.heap.size)
    (fun i X Y hx hr => ⟨hJ i X Y hx.1 (hr.mono (by omega)), Nat.le_trans hx.2.1 hr.size, eR hx.2.2 hr⟩)
    (fun c i X Y hx hr => ⟨hx.1, hJx i X Y hx.2.1 (hr.mono (by omega)), Nat.le_trans hx.2.2 hr.size⟩)
    (fun i V hv => ag i V hv.1) ⟨J1, Nat.le_refl _, Y1⟩ ?_ ?_ ?_
  · rintro l2 i args V Wv hl hlV hrec hiN ⟨hJi, hsz, hY2⟩ hb ⟨e, he, rfl⟩
    have hem := List.mem_of_getElem? he;have al := hEn V (ag i V hJi) e hem;obtain⟨hkb, hvb⟩:= hbig e hem;obtain⟨ekv, af, evv, ad⟩:= e;obtain⟨ak, nk, hk1⟩:= al.k.shape;obtain⟨av, nv, hv1⟩:= al.v.shape;simp only at hk1 hv1;subst hk1 hv1;simp;gi_wp2;refine⟨ae Wv _, ?_⟩;intro V2 W2 hJ2 hsz2 hYb ac _ hoth hsz3 hV2 r hrec2;have am := (hEn V2 (ag i V2 hJ2) _ hem).keep (ai ac (bX W2))
    have hEb : Blk W2 Wv.heap.size [.slice ak af.length nk, .slice av ad.length nv] 196 := (aC Wv [.slice ak af.length nk, .slice av ad.length nv] 196).same (hoth _ (by have := hb.size; omega));have hYW := hYb.keep ac;gi_wp2;refine Dw (S := fun w' => Blk w' W.heap.size [.func (.yield l) #[] #[]] 166 ∧ Blk w' Wv.heap.size [.slice ak af.length nk, .slice av ad.length nv] 196) (by kernel_rfl) ?_
    have hS := (show _ ∧ _ from⟨hYW.drew, hEb.drew⟩);have q1 := hb.size;have q2 := ac.size;refine rz 0 (some 6) (.func (.yield l) #[] #[]) 166 2 W.heap.size 0 (by kernel_rfl) (by kernel_rfl) (by kernel_rfl) (by kernel_rfl) (fun w' h => jf h.1) (fun _ _ _ h => h) hS ?_
    refine lV 1 (some 7) (.pointer (some ⟨Wv.heap.size, 0, none⟩)) (by kernel_rfl) (by kernel_rfl) (fun _ _ => by kernel_rfl) (fun _ _ _ h => h) hS ?_
    refine rz 2 (some 8) (.slice ak af.length nk) 96 7 Wv.heap.size 0 (by kernel_rfl) (by kernel_rfl) (by kernel_rfl) (by kernel_rfl) (fun w' h => ld_b (h.2.cell (i := 0) rfl)) (fun _ _ _ h => h) hS ?_
    refine lV 4 (some 10) (.pointer (some ⟨Wv.heap.size, 1, none⟩)) (by kernel_rfl) (by kernel_rfl) (fun _ _ => by kernel_rfl) (fun _ _ _ h => h) hS ?_
    refine rz 5 (some 11) (.slice av ad.length nv) 96 10 Wv.heap.size 1 (by kernel_rfl) (by kernel_rfl) (by kernel_rfl) (by kernel_rfl) (fun w' h => ld_b (h.2.cell (i := 1) rfl)) (fun _ _ _ h => h) hS ?_
    refine yI 3 (some 9) 78 #[.slice ak af.length nk] (by kernel_rfl) (by kernel_rfl) (by kernel_rfl) (dm am.k.by hkb) ?_
    rintro e' w3 ⟨nkv, rfl, hO3, aa⟩;refine⟨_, rfl, ⟨hS.1.keep aa, hS.2.keep aa⟩, ?_⟩;replace hS := (show _ ∧ _ from⟨hS.1.keep aa, hS.2.keep aa⟩);refine yI 6 (some 12) 78 #[.slice av ad.length nv] (by kernel_rfl) (by kernel_rfl) (by kernel_rfl) (dm (am.v.keep aa).by hvb) ?_
    rintro e' w4 ⟨nvv, rfl, hO4, ab⟩;refine⟨_, rfl, ⟨hS.1.keep ab, hS.2.keep ab⟩, ?_⟩;replace hS := (show _ ∧ _ from⟨hS.1.keep ab, hS.2.keep ab⟩)
    have hBV : Below V2.heap.size V2 w4 := ai (ai (ai ac (bX W2)) aa) ab
    have hBW : Below W2.heap.size W2 w4 := ai (ai (bX W2) aa) ab
    have hAr : ArC E i #[nkv, nvv] V2.heap.size w4 := ⟨_, nkv, nvv, w3.heap.size, he, rfl, (hO3.lt'.keep ab).mono (fun b _ hb => ⟨Nat.le_trans ac.size hb.1, hb.2⟩), hO4, Nat.le_trans ac.size aa.size⟩;refine D1 7 (some 13) l #[nkv, nvv] (by kernel_rfl) (by kernel_rfl) (FN (t1 := 96) (t2 := 96) (f := 6) (x := 9) (y := 12) (by kernel_rfl) (by kernel_rfl) (by kernel_rfl) (by kernel_rfl)) (hY i _ V2 w4 hiN hJ2 (by omega) hBV hAr) ?_
    rintro e' w5 ⟨hk5, h5⟩;have ah := hk5.blk hS.1 (Nat.le_refl _) hT;have aj := hk5.blk hS.2 (by omega) hTe
    have hkk : bC Tp (W.heap.size + 1) W2 w5 := (bC.of (B := W.heap.size + 1) hBW).trans (hk5.mono (by omega))
    have hsz5 : W.heap.size + 1 ≤ w5.heap.size := by have := hkk.size; omega
    rcases h5 with⟨rfl, hJ5⟩ | ⟨rfl, hJ5⟩
    · refine⟨_, rfl, ⟨ah, aj⟩, ?_⟩
      have hS := (show _ ∧ _ from⟨ah, aj⟩);refine lV 8 (some 14) (.bool false) (by kernel_rfl) (by kernel_rfl) (fun _ _ => by kernel_rfl) (fun _ _ _ h => h) hS ?_
      refine yL (by kernel_rfl) ?_
      simp only[Act.put, List.setIfInBounds_toArray, List.set_cons_zero, List.set_cons_succ];gi_wp2;exact⟨hkk, hJ5, hsz5, ah⟩
    · refine⟨_, rfl, ⟨ah, aj⟩, ?_⟩
      have hS := (show _ ∧ _ from⟨ah, aj⟩);refine lV 8 (some 14) (.bool true) (by kernel_rfl) (by kernel_rfl) (fun _ _ => by kernel_rfl) (fun _ _ _ h => h) hS ?_
      refine yL (by kernel_rfl) ?_
      simp only[Act.put, List.setIfInBounds_toArray, List.set_cons_zero, List.set_cons_succ];gi_wp2;exact⟨hkk, rfl, hJ5, hsz5⟩
  · rintro D' W' hD hK ⟨hJn, hsz, hYb⟩
    gi_wp2;refine⟨by simp, .inl ⟨_, _, rfl, run_takeDeferred hK, ?_⟩⟩;exact⟨_, results_none rfl _ _ _, ⟨_, rfl⟩, by simp; omega, .inl (hJ N _ _ hJn (Rec.put hK rfl (by omega) _))⟩
  · rintro D' c i W' hD hK hiN ⟨rfl, hJx', hsz⟩
    gi_wp2;refine⟨by simp, .inl ⟨_, _, rfl, run_takeDeferred hK, ?_⟩⟩;exact⟨_, results_none rfl _ _ _, ⟨_, rfl⟩, by simp; omega, .inr ⟨i, hiN, hJx (i + 1) _ _ hJx' (Rec.put hK rfl (by omega) _)⟩⟩
end
end Pg
end
section
namespace Pg
open Go.RowKit Go.Lib
attribute [local go_sem] Oper.semAt_some
def ArBP (Q:List Pg) (i:Nat) (args:Array Value) (_:Nat) (_:World):Prop:=∃ p j,j + 1 + i=Q.length/\Q[j]? = some p/\args=#[.int .i64 (j:Int),p.v]
def ArBE (Q:List En) (i:Nat) (args:Array Value) (_:Nat) (_:World):Prop:=∃ e j,j + 1 + i=Q.length/\Q[j]? = some e/\args=#[.int .i64 (j:Int),.agg #[e.kv,e.vv]]
end Pg
end
section
namespace Pg
open Go.RowKit Go.Lib
attribute [local go_sem] Oper.semAt_some
theorem rev_at {α:Type} {l:List α} {i j:Nat} {x:α} (h:l[j]? = some x) (hij:j + 1 + i=l.length):l.reverse[i]? = some x:=by
 rw[List.getElem?_reverse (by omega),show l.length - 1 - i=j by omega]; exact h
theorem H9 {α β:Type} (l:List α) (f:α->List β):(l.flatMap f).reverse=l.reverse.flatMap fun x=>(f x).reverse:=by
 induction l with
 | nil=>rfl
 | cons a l ih=>simp[List.flatMap_cons,ih]
end Pg
end
section
namespace Pg
open Go.RowKit Go.Lib
section
variable {w W W1:World}{lb:Array Value}{P:List (List En)}{f t:List Int}{X F D Df Dt:Nat->Prop}{g:Nat}{L:List Pg}{E:List En}{fv tv:Value}
attribute [local go_sem] Oper.semAt_some
theorem An{pm pf pt:Option Addr}{nf cf nt ct:Nat}:Calls Tryz.prog 77 #[.pointer pm,.slice pf nf cf,.slice pt nt ct] w fun e w'=>e=.returned (.func (.func 124) #[] #[.pointer (some ⟨w.heap.size,0,none⟩),.pointer (some ⟨w.heap.size + 1,0,none⟩),.pointer (some ⟨w.heap.size + 2,0,none⟩)])/\Blk w' w.heap.size [.pointer pm] 86/\Blk w' (w.heap.size + 1) [.slice pf nf cf] 96/\Blk w' (w.heap.size + 2) [.slice pt nt ct] 96/\Below w.heap.size w w':=by
 have b1:=ae w (.cells #[.pointer pm] 86);have b2:=ae (w.alloc (.cells #[.pointer pm] 86)) (.cells #[.slice pf nf cf] 96);have b3:=ae ((w.alloc (.cells #[.pointer pm] 86)).alloc (.cells #[.slice pf nf cf] 96)) (.cells #[.slice pt nt ct] 96);have c1:=((aC w [.pointer pm] 86).keep b2).keep b3;have c2:=(aC (w.alloc (.cells #[.pointer pm] 86)) [.slice pf nf cf] 96).keep b3;have c3:=aC ((w.alloc (.cells #[.pointer pm] 86)).alloc (.cells #[.slice pf nf cf] 96)) [.slice pt nt ct] 96
 have s1:(w.alloc (.cells #[.pointer pm] 86)).heap.size=w.heap.size + 1:=by simp
 have s2:((w.alloc (.cells #[.pointer pm] 86)).alloc (.cells #[.slice pf nf cf] 96)).heap.size=w.heap.size + 2:=by simp
 rw[s1] at c2;rw[s2] at c3;clear s1 s2;go_enter Tryz.func77,Tryz.ntmps77;go_wp2;go_ret;exact⟨by simp,c1,c2,c3,ai (ai b1 b2) b3⟩
theorem AD{k:Nat}:Calls Tryz.prog 76 #[.func (.func k) #[] lb] w fun e w'=>e=.returned (.func (.func 123) #[] #[.pointer (some ⟨w.heap.size,0,none⟩)])/\Blk w' w.heap.size [.func (.func k) #[] lb] 139/\Below w.heap.size w w':=by
 go_enter Tryz.func76,Tryz.ntmps76;go_wp2;go_ret;exact⟨rfl,aC w _ _,ae w _⟩
theorem r9{e:En}(h:e∈wlk P f t):∃ es∈P,e∈es:=by
 unfold wlk at h;obtain⟨es,h1,h2⟩:=List.mem_flatMap.1 h;exact⟨es,oe h1,oe h2⟩
structure Wm(W:World)(X F D:Nat->Prop)(g:Nat)(L:List Pg):Prop where
 map:bZ W F D g L
 ord:Ord (ens L)
 few:∀ es∈ens L,es.length<=32
 big:L.length<=100000000
 small:∀ es∈ens L,∀ e∈es,e.kl.length<=1000000000/\e.vl.length<=1000000000
 xF:∀ b,X b->¬ F b
 xU:∀ b,X b->∀ cs,¬ Blk W b cs 5
 xl:∀ b,X b->b < W.heap.size
theorem Wm.copies{Tp : TypeId → Prop}{X F D:Nat → Prop}{a bw N:Nat}(K : Wm W X F D g L)(l : Below W.heap.size W W1)(m : Itr Tp a lb N (ArE E) (fun V => Chg X W1 V))(n : ∀ args w, (callFunc a args).run Tryz.prog w = .ok (.enter a args) w)(r : ¬ Tp 166)(d : ¬ Tp 196)(hw : Blk W1 bw [.func (.func a) #[] lb] 139)(o : W.heap.size ≤ bw)(j : ∀ e ∈ E, ∃ es ∈ ens L, e ∈ es) : Itr Tp 123 #[.pointer (some ⟨bw, 0, none⟩)] N (ArC E) (fun V => Chg X W1 V) := by
  refine wj (D := D) m n r d (fun V f => (hw.chg f (fun x => by have := K.xl _ x; omega)).cell (i := 0) rfl) (fun V f e he => ?_) (fun e he => ?_)
  · obtain⟨es, h, c⟩:= j e he
    obtain⟨p, q, rfl⟩:= List.mem_map.1 h;have A := (K.map.keep l).chg f K.xF (fun b hb cs k => K.xU b hb cs (k.same (l.block b (K.xl b hb)).symm));exact(A.cO p q).1.ea e c
  · obtain⟨es, h, c⟩:= j e he
    exact K.small es h e c
theorem Wm.wk{bm bf bt:Nat}(K:Wm W X F D g L)(a:Below W.heap.size W W1)(hm:Blk W1 bm [.pointer (some ⟨g,0,none⟩)] 86)(hf:Blk W1 bf [fv] 96)(d:Blk W1 bt [tv] 96)(lm:W.heap.size<=bm)(e:W.heap.size<=bf)(lt:W.heap.size<=bt)(of:OB W1 Df fv f)(c:OB W1 Dt tv t):Wk W1 X F D g L bm bf bt fv tv f t :=
 ⟨K.map.keep a,K.ord,K.few,K.big,K.xF,fun b hb cs k=>K.xU b hb cs (k.same (a.block b (K.xl b hb)).symm),⟨hm,fun x=>by have:=K.xl _ x; omega⟩,⟨hf,fun x=>by have:=K.xl _ x; omega⟩,⟨d,fun x=>by have:=K.xl _ x; omega⟩,⟨_,of⟩,⟨_,c⟩⟩
theorem jz{Tp:TypeId->Prop}(K:Wm W X F D g L)(hf:By W fv f)(ht:By W tv t)(hfl:f.length<=1000000000)(htl:t.length<=1000000000)(hT:¬ Tp 166)(hTe:¬ Tp 196) :
  Calls Tryz.prog 42 #[.pointer (some ⟨g,0,none⟩),fv,tv] W fun e W'=>∃ bw,e=.returned (.func (.func 123) #[] #[.pointer (some ⟨bw,0,none⟩)])/\Below W.heap.size W W'/\Itr Tp 123 #[.pointer (some ⟨bw,0,none⟩)] (wlk (ens L) f t).length (ArC (wlk (ens L) f t)) (fun V=>Chg X W' V):=by
 have t1:=dm hf hfl;go_enter Tryz.func42,Tryz.ntmps42;go_wp2_with (go_at_call 78; refine t1.mono ?_; rintro e w1 ⟨v1,rfl,O1,B1⟩; obtain⟨a1,d1,rfl⟩:=O1.shape);have t2:=dm (ht.keep B1) htl
 go_wp2_with (first
  | (go_at_call 78; refine t2.mono ?_; rintro e w2 ⟨v2,rfl,O2,B2⟩; obtain⟨a2,d2,rfl⟩:=O2.shape)
  | (go_at_call 77; refine An.mono ?_; rintro e w3 ⟨rfl,m3,f3,t3,B3⟩)
  | (go_at_call 76; refine AD.mono ?_; rintro e w4 ⟨rfl,c4,B4⟩))
 go_ret;have B12:=ai B1 B2;have ab:=ai B12 B3;have aa:=ai ab B4;have s2:=B12.size;have s3:=ab.size;have B34:=ai B3 B4;have WK:=K.wk aa (m3.keep B4) (f3.keep B4) (t3.keep B4) (by omega) (by omega) (by omega) ((O1.keep B2).keep B34) (O2.keep B34);exact⟨_,rfl,aa,K.copies aa (xL WK) (enters_of Tryz.func124 (by kernel_rfl) rfl) hT hTe c4 (by omega) (fun e he=>r9 he)⟩
end
end Pg
end
section
namespace Pg
open Go.RowKit Go.Lib
section
variable {D D':Nat->Prop}{w w':World}{b:Nat}{cs:List Value}{v:Value}{l:List Int}
attribute [local go_sem] Oper.semAt_some
structure Spd(D:Nat->Prop)(w w':World):Prop where
 chg:Chg (fun b=>D b/\∃ cs,Blk w b cs 5) w w'
 kind:∀ b cs,Blk w b cs 5->∃ cs',Blk w' b cs' 5
theorem Spd.refl(D:Nat->Prop)(w:World):Spd D w w:=⟨Chg.refl _ _,fun _ cs h=>⟨cs,h⟩⟩
theorem Spd.blk(h:Spd D w w'){t:TypeId}(hb:Blk w b cs t)(ht:t≠5):Blk w' b cs t :=
 hb.chg h.chg (fun⟨_,_,k⟩=>ht (hb.eq k).2)
theorem Spd.keeps(h:Spd D w w'){Tp:TypeId->Prop}(c:Tp 5)(B:Nat):bC Tp B w w' :=
 ⟨h.chg.size,fun k o _ a b=>(h.chg.same k (lt_of_block a) (fun⟨_,cs,hb⟩=>by
  have e:=hb.blk;rw[a] at e
  cases e
  exact b _ _ _ rfl c)).trans a⟩
theorem Spd.ob(h:Spd D w w')(hv:OB w D' v l)(hD:∀ b,D' b->¬ D b):OB w' D' v l:=by
 refine⟨hv.oct,hv.ex.imp id ?_⟩;rintro⟨b,c,e,hd,hR⟩;exact⟨b,c,e,hd,hR.chg h.chg fun⟨x,_⟩=>hD b hd x⟩
theorem set_u8{n c k:Nat}(h:Rw w 5 1 b n c (l.map (Value.int .u8)))(a:l.length=n)(d:k < n)(x:Int):∃ l':List Int,l'.length=n/\Rw (w.setCell ⟨b,k,none⟩ (.int .u8 x)) 5 1 b n c (l'.map (Value.int .u8)) :=
 ⟨l.set k x,by rw[List.length_set]; exact a,by rw[List.map_set]; exact h.set k (by rw[List.length_map,a]; exact d) _⟩
end
end Pg
end
section
namespace Pg
open Go.RowKit Go.Lib
section
variable {F:Fence} {n:Nat} {P:Program} {ops:Array Oper} {Q:Exit->Act->World->Prop} {md:Region.Mode} {S:World->Prop} {z:Nat}
def inZ (F:Fence) (n:Nat) (P:Program) (md:Region.Mode) (ops:Array Oper) (Q:Exit->Act->World->Prop) (S:World->Prop) (z:Nat):Nat->Array Bool->Act->World->Prop
 | 0,listed,a,w=>Region.ready md ops listed=[]/\Q .normal a w
 | fuel + 1,listed,a,w =>
  (Region.ready md ops listed=[]->Q .normal a w) /\
  ∀ i∈Region.ready md ops listed,wpOpIn F n P ops Q i (fun a' w'=>(i=z\/S w')/\inZ F n P md ops Q S z fuel (listed.setIfInBounds i true) a' w') a w
theorem oK:∀ (fuel:Nat) (listed:Array Bool) (a:Act) (w:World),inZ F n P md ops Q S z fuel listed a w->wpAnyIn F n P md ops Q fuel listed a w
 | 0,_,_,_,h=>h
 | fuel + 1,_,_,_,h=>⟨h.1,fun i hi=>wpOpIn_mono (fun a' w' h'=>oK fuel _ a' w' h'.2) (h.2 i hi)⟩
def waits (md:Region.Mode) (ops:Array Oper) (z i:Nat):Bool:=decide (z≠i) && (ops.getD z default).after.any fun e=>Region.binds md e && decide (e.on=i)
theorem zK {i:Nat} {oi:Oper} {v:Value} (J:waits md ops z i=true) (hF:∀ f,F.fn f) (A:kU ops=true) (hi:ops[i]? = some oi)
  (L:∀ c a w,Q (.panic c) (a.put oi.dst v) w->Q (.panic c) a w) :
  ∀ (fuel:Nat) (listed:Array Bool) (a:Act) (w:World),
   (∀ j oj,ops[j]? = some oj->j≠i->listed.getD j true=false->(∀ e∈oj.after,Region.binds md e=true->e.on≠i)->oi.apart ops oj=true) ->
   i∈Region.ready md ops listed->YieldsIf P ops S oi v a->S w ->
   inZ F n P md ops Q S z fuel (listed.setIfInBounds i true) (a.put oi.dst v) w->inZ F n P md ops Q S z (fuel + 1) listed a w:=by
 intro fuel
 induction fuel with
 | zero =>
  intro listed a w _ o hy hS H;refine⟨fun h=>(by rw[h] at o; cases o),fun j B => ?_⟩;by_cases b:j=i
  ·subst b; exact kh hF A hi hy hS ⟨.inr hS,H⟩
  ·have:=ready_mono B b;rw[H.1] at this
   cases this
 | succ fuel ih =>
  intro listed a w d o hy hS H;refine⟨fun h=>(by rw[h] at o; cases o),fun j B => ?_⟩;by_cases b:j=i
  ·subst b; exact kh hF A hi hy hS ⟨.inr hS,H⟩
  ·have q:=H.2 j (ready_mono B b);obtain⟨m,oj,p,u⟩:=mem_ready.1 B
   have l:∀ e∈oj.after,Region.binds md e=true->e.on≠i:=fun e he hb heq=>by
    have q:=u e he hb;have K:=(mem_ready.1 o).1;rw[heq] at q;rcases Nat.lt_or_ge i listed.size with C | C
    ·simp[C] at K q; rw[K] at q; cases q
    ·simp[Array.getElem?_eq_none C] at q
   have E:j≠z:=fun e=>by
    subst e;unfold waits at J;rw[Bool.and_eq_true,Array.any_eq_true] at J;obtain⟨_,k,y,r⟩:=J
    have N:ops.getD j default=oj:=by
     rw[Array.getD_eq_getD_getElem?,p]; rfl
    simp only[N] at y r;rw[Bool.and_eq_true,decide_eq_true_eq] at r;exact l _ (Array.getElem_mem y) r.1 r.2
   have r:=Cl hF A p (d j oj p b m l) (gq A hi).2 L hy q
   have g:∀ k ok,ops[k]? = some ok->k≠i->(listed.setIfInBounds j true).getD k true=false ->
     (∀ e∈ok.after,Region.binds md e=true->e.on≠i)->oi.apart ops ok=true:=fun k ok y D x I=>by
    refine d k ok y D ?_ I;by_cases s:j=k
    ·subst s; exact m
    ·rw[getD_set_ne true s] at x; exact x
   refine wpOpIn_mono (fun O M G => ?_) r
   have t:=G.2.1.resolve_left E;refine⟨.inr t,ih (listed.setIfInBounds j true) O M g (ready_mono o (Ne.symm b)) G.1 t ?_⟩;rw[Array.setIfInBounds_comm _ _ b];exact G.2.2
end
section
variable {ops:Array Oper} {Q:Exit->Act->World->Prop} {S:World->Prop} {z fuel:Nat} {listed:Array Bool} {a:Act} {w:World} {l n:Nat}
section
variable {Qc:Ending->World->Prop}
theorem iz_start{id:Nat}(hm:Tryz.prog.follows .mixedOrders=true)(h:inZ (Fence.wide.inRound l) n Tryz.prog .any ops Q S z ops.size (Array.replicate ops.size false) a w.drew):(Code.region id ops true).wpIn (Fence.wide.inRound l) n Tryz.prog Q a w :=
 wpIn_region_any hm (oK _ _ _ _ h)
theorem Gj(i:Nat)(d:Option Tmp)(v:Value)(k:waits .any ops z i=true)(j:kU ops=true)(hc:gN ops listed a i d=true)(hy:∀ w',S w'->(execOp a.eval (ops.getD i default)).run Tryz.prog w'=.ok (.value v) w')(f:∀ c a w,Q (.panic c) (a.put d v) w->Q (.panic c) a w)(hS:S w)(h:inZ (Fence.wide.inRound l) n Tryz.prog .any ops Q S z fuel (listed.setIfInBounds i true) (a.put d v) w):inZ (Fence.wide.inRound l) n Tryz.prog .any ops Q S z (fuel + 1) listed a w:=by
 simp only[gN,Bool.and_eq_true,decide_eq_true_eq] at hc;obtain⟨⟨⟨⟨⟨_,e⟩,o⟩,b⟩,m⟩,g⟩:=hc;subst g;exact zK k (fun _=>trivial) j (bp b) f fuel listed a w (Region.free_spec (bp b) e) (by simpa using o) (.inl ⟨m,hy⟩) hS h
theorem iz_load(i:Nat)(d:Option Tmp)(v:Value)(T:TypeId)(k g o:Nat)(q:waits .any ops z i=true)(m:kU ops=true)(hc:gN ops listed a i d=true)(e:(ops.getD i default).op=.load T (.tmp k))(p:a.eval (.tmp k)=.pointer (some ⟨g,o,none⟩))(j:∀ w',S w'->(loadVar T ⟨g,o,none⟩).run Tryz.prog w'=.ok v w')(f:∀ c a w,Q (.panic c) (a.put d v) w->Q (.panic c) a w)(hS:S w)(h:inZ (Fence.wide.inRound l) n Tryz.prog .any ops Q S z fuel (listed.setIfInBounds i true) (a.put d v) w):inZ (Fence.wide.inRound l) n Tryz.prog .any ops Q S z (fuel + 1) listed a w :=
 Gj i d v q m hc (fun w' b=>jt k e p (j w' b)) f hS h
theorem iz_call(i:Nat)(d:Option Tmp)(f:FuncId)(args:Array Value)(r:kU ops=true)(hc:eZ ops listed a i d=true)(c:(execOp a.eval (ops.getD i default)).run Tryz.prog w=.ok (.enter f args) w)(b:Calls Tryz.prog f args w Qc)(q:∀ e w',Qc e w'->∃ v,e=.returned v/\S w'/\inZ (Fence.wide.inRound l) n Tryz.prog .any ops Q S z fuel (listed.setIfInBounds i true) (a.put d v) w') :
  inZ (Fence.wide.inRound l) n Tryz.prog .any ops Q S z (fuel + 1) listed a w:=by
 simp only[eZ,Bool.and_eq_true,decide_eq_true_eq] at hc;obtain⟨⟨⟨o,k⟩,t⟩,p⟩:=hc;subst p;refine⟨fun s=>absurd (o▸s) (by simp),fun j m => ?_⟩;rw[o] at m;obtain rfl:j=i:=by simpa using m
 unfold wpOpIn;rw[bp k];simp only[t,if_true,Oper.wpIn];refine⟨fun _ _=>trivial,?_⟩;rw[Oper.semAt_eq _ _ _ (gq r (bp k)).1,c];refine⟨fun h=>(by cases h),CallsIn.inRound l (callsIn_wide.2 (b.mono fun e w' he => ?_))⟩;obtain⟨v,rfl,g,hw⟩:=q e w' he;exact⟨.inr g,hw⟩
theorem iz_val(i:Nat)(d:Option Tmp)(v:Value)(w1:World)(k:kU ops=true)(hc:eZ ops listed a i d=true)(b:(execOp a.eval (ops.getD i default)).run Tryz.prog w=.ok (.value v) w1)(hS:S w1)(h:inZ (Fence.wide.inRound l) n Tryz.prog .any ops Q S z fuel (listed.setIfInBounds i true) (a.put d v) w1) :
  inZ (Fence.wide.inRound l) n Tryz.prog .any ops Q S z (fuel + 1) listed a w:=by
 simp only[eZ,Bool.and_eq_true,decide_eq_true_eq] at hc;obtain⟨⟨⟨f,c⟩,o⟩,g⟩:=hc;subst g;refine⟨fun m=>absurd (f▸m) (by simp),fun j e => ?_⟩;rw[f] at e;obtain rfl:j=i:=by simpa using e
 unfold wpOpIn;rw[bp c];simp only[o,if_true,Oper.wpIn];refine⟨fun _ _=>trivial,?_⟩;rw[Oper.semAt_eq _ _ _ (gq k (bp c)).1,b];exact⟨.inr hS,h⟩
theorem iz_last(w1:World)(g:kU ops=true)(hc:eZ ops listed a z none=true)(b:(execOp a.eval (ops.getD z default)).run Tryz.prog w=.ok .skip w1)(h:inZ (Fence.wide.inRound l) n Tryz.prog .any ops Q S z fuel (listed.setIfInBounds z true) a w1) :
  inZ (Fence.wide.inRound l) n Tryz.prog .any ops Q S z (fuel + 1) listed a w:=by
 simp only[eZ,Bool.and_eq_true,decide_eq_true_eq] at hc;obtain⟨⟨⟨e,c⟩,k⟩,f⟩:=hc;refine⟨fun i=>absurd (e▸i) (by simp),fun j d => ?_⟩;rw[e] at d;obtain rfl:j=z:=by simpa using d
 unfold wpOpIn;rw[bp c];simp only[k,if_true,Oper.wpIn];refine⟨fun _ _=>trivial,?_⟩;rw[Oper.semAt_eq _ _ _ (gq g (bp c)).1,b];refine⟨by simp,?_⟩;rw[f];exact h
theorem iz_done(b:Region.ready .any ops listed=[])(h:Q .normal a w):inZ (Fence.wide.inRound l) n Tryz.prog .any ops Q S z fuel listed a w:=by
 cases fuel with
 | zero=>exact⟨b,h⟩
 | succ k=>exact⟨fun _=>h,by rw[b]; simp⟩
end
end
end Pg
end
section
namespace Pg
open Go.RowKit Go.Lib
section
variable {w w':World}{B g:Nat}{v ov u:Value}{es:List En}{D:Nat->Prop}{l:List Int}{cs:List Value}{a:Act}{o:Oper}{ao:Option Addr}
attribute [local go_sem] Oper.semAt_some
theorem KQ:Kd Tryz.prog 46 98 2 48 (.agg #[.slice none 0 0,.slice none 0 0]):=⟨by kernel_rfl,by kernel_rfl,rfl,by simp[Value.cells,Value.oneCell'],by decide⟩
structure PrA(w:World)(B:Nat)(v:Value)(es:List En):Prop where
 ex:(v=.slice none 0 0/\es=[])\/∃ b c,v=.slice (some ⟨b,0,none⟩) es.length c/\B<=b/\Rw w 98 2 b es.length c (flat es)
 ea:∀ e∈es,EnA w (B <= ·) e
theorem PrA.shape(h:PrA w B v es):∃ ao c,v=.slice ao es.length c:=by
 rcases h.ex with⟨rfl,rfl⟩ | ⟨b,c,rfl,_⟩
 ·exact⟨none,0,rfl⟩
 ·exact⟨_,c,rfl⟩
theorem PrA.keep(h:PrA w B v es)(hb:Below w.heap.size w w'):PrA w' B v es :=
 ⟨h.ex.imp id (fun⟨b,c,e,hl,hR⟩=>⟨b,c,e,hl,hR.keep hb⟩),fun e he=>(h.ea e he).keep hb⟩
theorem PrA.spd(h:PrA w B v es)(d:∀ e∈es,EnA w (fun b=>B<=b/\¬ D b) e)(hs:Spd D w w'):PrA w' B v es:=by
 refine⟨h.ex.imp id ?_,fun e he => ?_⟩
 ·rintro⟨b,c,e,g,a⟩;refine⟨b,c,e,g,a.chg hs.chg fun⟨_,cs,k⟩ => ?_⟩;obtain⟨i,f⟩:=a.kind;have:=(k.eq f).2;revert this;decide
 ·have:=d e he;exact⟨(hs.ob this.k (fun b hb=>hb.2)).mono (fun _ _ h=>h.1),(hs.ob this.v (fun b hb=>hb.2)).mono (fun _ _ h=>h.1)⟩
structure Spr(B:Nat)(w w':World):Prop where
 chg:Chg (fun b=>B<=b/\∃ cs,Blk w b cs 98) w w'
theorem Spr.keeps{d:Nat}(h:Spr B w w'){Tp:TypeId->Prop}(c:Tp 98):bC Tp d w w' :=
 ⟨h.chg.size,fun k o _ a b=>(h.chg.same k (lt_of_block a) (fun⟨_,cs,hb⟩=>by
  have e:=hb.blk;rw[a] at e
  cases e
  exact b _ _ _ rfl c)).trans a⟩
theorem Spr.ob(h:Spr B w w')(hv:OB w D v l):OB w' D v l :=
 hv.chg h.chg (fun b ⟨_,cs,k⟩ ds k'=>by
  have:=(k.eq k').2;revert this
  decide)
theorem Spr.blk(h:Spr B w w'){b:Nat}{t:TypeId}(hb:Blk w b cs t)(ht:t≠98):Blk w' b cs t :=
 hb.chg h.chg (fun⟨_,_,k⟩=>ht (hb.eq k).2)
theorem Spr.of(h:Below w.heap.size w w'):Spr B w w':=⟨Chg.of h⟩
theorem Cd{e:En}{a:Addr}(ty:TypeId)(h:PrA w B ov es)(t:B<=w.heap.size)(he:EnA w (B <= ·) e)(z:es.length<=2000000000)(c0:w.cell? (a.add 0)=some e.kv)(c1:w.cell? (a.add 1)=some e.vv) :
  ∃ ov' w',(Builtin.append_ #[46,46] ty #[ov,.slice (some a) 1 1]).run Tryz.prog w=.ok ov' w'/\PrA w' B ov' (es ++ [e])/\Spr B w w':=by
 have d:∀ j u,[e.kv,e.vv][j]? = some u->w.cell? (a.add j)=some u:=fun j u g=>by
  match j with
  | 0=>simp at g; rw[<- g]; exact c0
  | 1=>simp at g; rw[<- g]; exact c1
  | k + 2=>simp at g
 rcases h.ex with⟨rfl,rfl⟩ | ⟨b,c,rfl,hb,i⟩
 ·obtain⟨r,w',m,i,hw⟩:=fy (w:=w) KQ ty a 1 1 [e.kv,e.vv] rfl d (by omega) (by omega) (by omega);refine⟨_,w',m,⟨.inr ⟨_,r,rfl,t,i⟩,fun x hx => ?_⟩,Spr.of hw⟩;simp at hx;subst hx;exact he.keep hw
 ·obtain⟨ak,nk,o⟩:=he.k.shape;obtain⟨A,y,q⟩:=he.v.shape;obtain⟨s,r,w',m,p,n,hw⟩:=dK (w:=w) KQ ty i a 1 1 [e.kv,e.vv] rfl d (by rw[o,q]; simp[Value.oneCell']) (by omega) (by omega);obtain⟨l,k0⟩:=i.kind
  have hS:Spr B w w':=⟨hw.mono (fun x _ ex=>⟨ex▸hb,l,ex▸k0⟩)⟩
  refine⟨_,w',m,⟨.inr ⟨s,r,by simp,by rcases p with rfl | rfl<;>assumption,by rw[fi,List.length_append]; exact n⟩,fun x hx => ?_⟩,hS⟩
  have f:EnA w (B <= ·) x:=by
   rcases List.mem_append.1 hx with hx | hx
   ·exact h.ea x hx
   ·simp at hx; rw[hx]; exact he
  exact⟨hS.ob f.k,hS.ob f.v⟩
theorem ld_q(c:Blk w g [v] 46):(loadVar 46 ⟨g,0,none⟩).run Tryz.prog w=.ok v w:=by
 have c:=c.cell (i:=0) rfl;go_simp
theorem run_bq{k:Nat}{kv vv:Value}(ho:o.op=.buildSlice 46 1 #[(0,.tmp k)])(hk:a.eval (.tmp k)=.agg #[kv,vv]):(execOp a.eval o).run Tryz.prog w=.ok (.value (.slice (some ⟨w.heap.size,0,none⟩) 1 1)) (w.alloc (.cells #[kv,vv] 98)):=by
 have hk':a.tmps[k]?.getD undef=.agg #[kv,vv]:=by simpa[Act.eval] using hk
 simp only[execOp,ho];go_simp
theorem run_sq(k q:Nat){n c:Nat}(ho:o.op=.store 46 (.tmp k) (.tmp q))(hp:a.eval (.tmp k)=.pointer (some ⟨g,0,none⟩))(hq:a.eval (.tmp q)=.slice ao n c)(hb:Blk w g [u] 46) :
  (execOp a.eval o).run Tryz.prog w=.ok .skip (w.setCell ⟨g,0,none⟩ (.slice ao n c)):=by
 have hc:=hb.cell (i:=0) rfl;have hf:=hb.free 0;simp only[execOp,ho,hp,hq];go_simp
theorem run_ap{x y:Nat}{T ty:TypeId}{r:Value}(b:o.type=ty)(c:o.op=.call { callee:=.builtin .append,args:=#[.tmp x,.tmp y],argTypes:=#[T,T] })(hx:a.eval (.tmp x)=u)(hy:a.eval (.tmp y)=v)(d:(Builtin.append_ #[T,T] ty #[u,v]).run Tryz.prog w=.ok r w') :
  (execOp a.eval o).run Tryz.prog w=.ok (.value r) w':=by
 subst b;unfold execOp;simp only[c,resolve,invoke,builtin,Sem.run_bind,Sem.run_pure,Result.andThen_ok,List.map_toArray,List.map_cons,List.map_nil,hx,hy,d]
end
end Pg
end
section
namespace Pg
open Go.RowKit Go.Lib
section
variable {X:Nat->Prop}{W V V' w W':World}{B bo:Nat}{v:Value}{L:List Pg}
attribute [local go_sem] Oper.semAt_some
theorem Chg.rcd(h:Chg X W V)(a:Rec W.heap.size V V'):Chg X W V':=by
 refine⟨a.os.trans h.os,a.tape.trans h.tape,a.output.trans h.output,Nat.le_trans h.size a.size,fun b hb hx => ?_⟩;have e:=h.same b hb hx;rw[<- e]
 have c:b < V.heap.size:=Nat.lt_of_lt_of_le hb h.size;rw[Array.getElem?_eq_getElem c] at e ⊢;exact a.same b _ (Array.getElem?_eq_getElem c) (.inl hb)
theorem PrA.cel{w':World}{es:List En}(h:PrA w B v es)(hc:Cel w w'):PrA w' B v es:=by
 refine⟨h.ex.imp id ?_,fun e he=>⟨(h.ea e he).k.cel hc,(h.ea e he).v.cel hc⟩⟩;rintro⟨b,c,e,d,a⟩;obtain⟨cs,k⟩:=a.kind;exact⟨b,c,e,d,a.same ((hc.same b _ k.blk rfl).trans k.blk.symm)⟩
def En.kl2(e:En):List Int × List Int:=(e.kl,e.vl)
structure Gw(W V:World)(bo:Nat)(E:List En)(i:Nat):Prop where
 chg:Chg (· = bo) W V
 out:∃ ov es,Blk V bo [ov] 46/\PrA V W.heap.size ov es/\es.map En.kl2=(E.take i).map En.kl2
theorem Gw.rcd{E:List En}{i:Nat}(h:Gw W V bo E i)(hr:Rec W.heap.size V V'):Gw W V' bo E i:=by
 obtain⟨ov,es,h1,h2,h3⟩:=h.out;exact⟨h.chg.rcd hr,ov,es,eR h1 hr,h2.cel hr.cel,h3⟩
theorem PrA.low{B':Nat}{es:List En}(h:PrA w B v es)(hB:B'<=B):PrA w B' v es :=
 ⟨h.ex.imp id (fun⟨b,c,e,hl,hR⟩=>⟨b,c,e,by omega,hR⟩),fun e he=>(h.ea e he).mono (fun b _ hb=>by omega)⟩
theorem vW{c w1:World}(g:Below W.heap.size W c)(d:Below c.heap.size c w1)(f:Chg (· = bo) w1 W')(hb:W.heap.size<=bo):Below W.heap.size W W':=by
 have a:=ai g d;exact a.trans (f.below (fun b e=>by omega) a.size)
theorem Wm.keep{F D:Nat->Prop}{g:Nat}(K:Wm W X F D g L)(a:Below W.heap.size W W'):Wm W' X F D g L :=
 ⟨K.map.keep a,K.ord,K.few,K.big,K.small,K.xF,fun b hb cs k=>K.xU b hb cs (k.same (a.block b (K.xl b hb)).symm),fun b hb=>Nat.lt_of_lt_of_le (K.xl b hb) a.size⟩
def TpW(t:TypeId):Prop:=t=5\/t=98
end
end Pg
end
section
namespace Pg
open Go.RowKit Go.Lib
section
variable {w:World}{ao:Option Addr}{l a b:List Int}{x:Int}{k:Nat}
attribute [local go_sem] Oper.semAt_some
theorem By.at{n c:Nat}(h:By w (.slice ao n c) l){i:Nat}(hi:l[i]? = some x):∃ b o,ao=some ⟨b,o,none⟩/\w.cell? ⟨b,o + i,none⟩=some (.int .u8 x):=by
 obtain⟨a,f,e,_,_,_,_,d⟩:=h.ex
 cases e;rcases d with rfl | ⟨b,o,e,_,hc⟩
 ·simp at hi
 ·exact⟨b,o,e,hc i x hi⟩
theorem Hz{w':World}(h:Below w.heap.size w w'):∀ k,Below w.heap.size w (w'.drewN k):=fun _=>⟨h.os,h.tape,h.output,h.size,h.block⟩
theorem mQ:∀ {k:Nat} {a b:List Int},a.take k=b.take k->k<=a.length->k<=b.length->cY a b=cY (a.drop k) (b.drop k)
 | 0,_,_,_,_,_=>rfl
 | k + 1,[],_,_,h,_=>by simp at h
 | k + 1,_ :: _,[],_,_,h=>by simp at h
 | k + 1,x :: a,y :: b,h,h1,h2=>by
  simp at h h1 h2;obtain⟨rfl,h⟩:=h;rw[List.drop_succ_cons,List.drop_succ_cons,<- mQ h h1 h2];simp[cY]
theorem lt_at{y:Int}(h:a.take k=b.take k)(hx:a[k]? = some x)(hy:b[k]? = some y)(e:x≠y):Lt a b<->x < y:=by
 obtain⟨f,e1⟩:=List.getElem?_eq_some_iff.1 hx;obtain⟨d,e2⟩:=List.getElem?_eq_some_iff.1 hy;unfold Lt;rw[mQ h (by omega) (by omega),List.drop_eq_getElem_cons f,List.drop_eq_getElem_cons d,e1,e2];simp only[cY];by_cases c:x < y
 ·simp[c]
 ·simp[c,show y < x by omega]
theorem lt_end(h:a.take k=b.take k)(f:k<=a.length)(c:k<=b.length)(d:k=a.length\/k=b.length):Lt a b<->a.length < b.length:=by
 unfold Lt;rw[mQ h f c];rcases d with e | e
 ·rw[List.drop_of_length_le (l:=a) (by omega)]
  cases hb:b.drop k with
  | nil =>
   have:=congrArg List.length hb;simp at this;simp[cY]; omega
  | cons y l =>
   have:=congrArg List.length hb;simp at this;simp[cY]; omega
 ·rw[List.drop_of_length_le (l:=b) (by omega)]
  cases ha:a.drop k with
  | nil =>
   have:=congrArg List.length ha;simp at this;simp[cY]; omega
  | cons y l =>
   have:=congrArg List.length ha;simp at this;simp[cY]; omega
end
end Pg
end
section
namespace Pg
open Go.RowKit Go.Lib
section
variable {w:World}{v:Value}{l Z:List Int}
attribute [local go_sem] Oper.semAt_some
structure Shp(P:List (List En)):Prop where
 one:∀ es∈P,1<=es.length/\es.length<=32
 two:∀ i x y,P[i]? = some x->P[i + 1]? = some y->17<=x.length + y.length
theorem Bp.keep{w':World}{B:Nat}(h:Bp w B v l)(hb:Below w.heap.size w w'):Bp w' B v l:=by
 obtain⟨b,c,e,hl,hR⟩:=h.ex;exact⟨b,c,e,hl,hR.keep hb⟩
theorem uy(h:∀ z∈Z,0<=z/\z<=32):∀ k,0<=(Z.take k).sum/\(Z.take k).sum<=32 * (k:Int)
 | 0=>by simp
 | k + 1=>by
  have ih:=uy h k;rw[List.take_add_one,List.sum_append]
  cases hz:Z[k]? with
  | none=>simp; omega
  | some z =>
   have:=h z (List.mem_of_getElem? hz);simp; omega
theorem sum_lens(P:List (List En)):(P.map fun es=>(es.length:Int)).sum=(P.flatten.length:Int):=by
 induction P with
 | nil=>rfl
 | cons a P ih=>simp only[List.map_cons,List.sum_cons,ih,List.flatten_cons,List.length_append]; omega
theorem ld_i{g o:Nat}{v:Int}(c:w.cell? ⟨g,o,none⟩=some (.int .i64 v)):(loadVar 3 ⟨g,o,none⟩).run Tryz.prog w=.ok (.int .i64 v) w:=by go_simp
end
end Pg
end
section
namespace Pg
section
variable {P:List (List En)}{i j:Nat}{a es:List En}{e:En}{k:List Int}
theorem Ord.pair(h:Ord P):(∀ es∈P,es.Pairwise fun x y=>Lt x.kl y.kl)/\P.Pairwise fun a b=>∀ x∈a,∀ y∈b,Lt x.kl y.kl:=by
 have:=h.gy;simp only[Srt,kys,List.pairwise_map,List.pairwise_flatten] at this;exact this
theorem Ord.of(h0:∀ es∈P,es≠[])(h:P.flatten.Pairwise fun x y=>Lt x.kl y.kl):Ord P:=⟨h0,by simpa only [Srt,kys,List.pairwise_map] using h⟩
theorem Ord.two(h:Ord P){b:List En}{x y:En}(c:i < j)(e:P[i]? = some a)(hb:P[j]? = some b)(hx:x∈a)(hy:y∈b):Lt x.kl y.kl:=by
 obtain⟨f,rfl⟩:=List.getElem?_eq_some_iff.1 e;obtain⟨d,rfl⟩:=List.getElem?_eq_some_iff.1 hb;exact List.pairwise_iff_getElem.1 h.pair.2 i j f d c x hx y hy
theorem Ord.head(h:Ord P)(b:P[i]? = some a):∃ e,e∈a/\(fks P)[i]? = some e.kl/\∀ x∈a,¬ Lt x.kl e.kl:=by
 have hm:=List.mem_of_getElem? b;obtain⟨e,l,rfl,he⟩:=lA (h.full a hm);refine⟨e,List.mem_cons_self,by rw[fks,List.getElem?_map,b]; simp[kys],fun x hx => ?_⟩;rcases List.mem_cons.1 hx with rfl | hx
 ·exact lt_irrefl _
 ·exact((List.pairwise_cons.1 (h.pair.1 _ hm)).1 x hx).not
theorem xr(h:es[j]? = some e):(kys es)[j]? = some e.kl:=by
 rw[kys,List.getElem?_map,h]; rfl
theorem Ord.parts(O:Ord P)(w:P≠[])(k:List Int):∃ A es B,P=A ++ es :: B/\A.length=pgi P k/\P.getD (pgi P k) []=es /\
  (∀ e∈A.flatten ++ es.take (plc (kys es) k),Lt e.kl k)/\(∀ e∈es.drop (plc (kys es) k),¬ Lt e.kl k)/\(∀ e∈B.flatten,Lt k e.kl):=by
 have hi:pgi P k < P.length:=by
  have:=sP (fks P) k;have:(fks P).length=P.length:=by simp[fks]
  have:P.length≠0:=fun e=>w (List.eq_nil_of_length_eq_zero e)
  unfold pgi;omega
 obtain⟨i,c⟩:∃ i,pgi P k=i:=⟨_,rfl⟩
 rw[c] at hi ⊢
 have s:P[i]? = some P[i]:=List.getElem?_eq_getElem hi;refine⟨P.take i,P[i],P.drop (i + 1),?_,by rw[List.length_take]; omega,by rw[List.getD_eq_getElem?_getD,s]; rfl,fun e he => ?_,fun e he => ?_,fun e he => ?_⟩
 ·conv=>lhs; rw[<- List.take_append_drop i P,List.drop_eq_getElem_cons hi]
 ·rcases List.mem_append.1 he with he | he
  ·obtain⟨a,o,d⟩:=List.mem_flatten.1 he;obtain⟨j,b⟩:=List.getElem?_of_mem o
   have p:j < i:=by have:=(List.getElem?_eq_some_iff.1 b).1; rw[List.length_take] at this; omega
   rw[List.getElem?_take_of_lt p] at b
   have n:P[j + 1]? = some P[j + 1]:=List.getElem?_eq_getElem (by omega);obtain⟨h,u,m,t⟩:=O.head n;have q:=O.two (Nat.lt_succ_self j) b n d u;exact q.of_le (CD (by unfold pgi at c; omega) m)
  ·obtain⟨j,b⟩:=List.getElem?_of_mem he
   have g:j < plc (kys P[i]) k:=by have:=(List.getElem?_eq_some_iff.1 b).1; rw[List.length_take] at this; omega
   rw[List.getElem?_take_of_lt g] at b;exact DO g (by rw[kys,List.getElem?_map,b]; rfl)
 ·obtain⟨j,b⟩:=List.getElem?_of_mem he;rw[List.getElem?_drop] at b
  have f:plc (kys P[i]) k < P[i].length:=by have:=(List.getElem?_eq_some_iff.1 b).1; omega
  have r:=BH (l:=kys P[i]) (k:=k) (x:=(P[i][plc (kys P[i]) k]).kl) (xr (List.getElem?_eq_getElem f))
  cases j with
  | zero =>
   rw[Nat.add_zero,List.getElem?_eq_getElem f] at b
   cases b;exact r
  | succ j =>
   intro z;have:=(O.page s).get (i:=plc (kys P[i]) k) (j:=plc (kys P[i]) k + (j + 1)) (x:=(P[i][plc (kys P[i]) k]).kl) (y:=e.kl) (by omega) (xr (List.getElem?_eq_getElem f)) (xr b);exact r (this.trans z)
 ·obtain⟨a,o,d⟩:=List.mem_flatten.1 he;obtain⟨j,b⟩:=List.getElem?_of_mem o;rw[List.getElem?_drop] at b;obtain⟨h,u,m,t⟩:=O.head b
  have v:Lt k h.kl:=by
   have f:plq (fks P) k < (fks P).length:=by
    have:=(List.getElem?_eq_some_iff.1 m).1;unfold pgi at c;omega
   have g0:=Ev (l:=fks P) (k:=k) (x:=(fks P)[plq (fks P) k]) (List.getElem?_eq_getElem f);by_cases e:plq (fks P) k=i + 1 + j
   ·have g1:(fks P)[plq (fks P) k]? = some h.kl:=by rw[e]; exact m
    rw[List.getElem?_eq_getElem f] at g1;rw[<- Option.some.inj g1];exact g0
   ·exact g0.trans (O.BC.get (by unfold pgi at c; omega) (List.getElem?_eq_getElem f) m)
  exact v.of_le (t e d)
theorem rn(A B:List (List En))(es:List En)(q:Nat)(e:En):sd (A ++ es :: B) A.length q e =
  if 32 < es.length + 1 then A ++ (es.take q ++ [e] ++ es.drop q).take 16 :: (es.take q ++ [e] ++ es.drop q).drop 16 :: B else A ++ (es.take q ++ [e] ++ es.drop q) :: B:=by
 have e1:(A ++ es :: B).getD A.length []=es:=by simp
 have e2:(es.take q ++ [e] ++ es.drop q).length=es.length + 1:=by
  simp only[List.length_append,List.length_take,List.length_drop,List.length_cons,List.length_nil]; omega
 unfold sd;simp only[e1,e2];split
 ·simp
 ·simp
theorem Ho(A B:List (List En))(es:List En)(q:Nat)(e:En):(sd (A ++ es :: B) A.length q e).flatten=A.flatten ++ es.take q ++ e :: (es.drop q ++ B.flatten):=by
 rw[rn];split
 ·rw[List.flatten_append,List.flatten_cons,List.flatten_cons,<- List.append_assoc (List.take 16 _),List.take_append_drop];simp
 ·simp
theorem CZ{X Y:List En}(h:(X ++ Y).Pairwise fun x y=>Lt x.kl y.kl)(b:∀ x∈X,Lt x.kl e.kl)(a:∀ y∈Y,Lt e.kl y.kl):(X ++ e :: Y).Pairwise fun x y=>Lt x.kl y.kl:=by
 rw[List.pairwise_append] at h ⊢;refine⟨h.1,List.pairwise_cons.2 ⟨a,h.2.1⟩,fun x hx y hy => ?_⟩;rcases List.mem_cons.1 hy with rfl | hy
 ·exact b x hx
 ·exact h.2.2 x hx y hy
theorem Ord.flat(O:Ord P):P.flatten.Pairwise fun x y=>Lt x.kl y.kl:=by
 simpa only [Srt,kys,List.pairwise_map] using O.gy
theorem j6(O:Ord P)(k:List Int):has P k=true<->k∈kys P.flatten:=by
 by_cases b:P=[]
 ·subst b; simp[has,kys]
 obtain⟨A,es,B,e1,e2,e3,f,g,d⟩:=O.parts b k
 have a:es∈P:=by rw[e1]; simp
 obtain⟨i,hi⟩:=List.getElem?_of_mem a
 have c:P.isEmpty=false:=by simpa using b
 unfold has;rw[e3,c,Bool.not_false,Bool.true_and,xV (O.page hi)];constructor
 ·intro h;obtain⟨e,he,rfl⟩:=List.mem_map.1 h;exact List.mem_map.2 ⟨e,List.mem_flatten.2 ⟨es,a,he⟩,rfl⟩
 ·intro h;obtain⟨e,he,rfl⟩:=List.mem_map.1 h;refine List.mem_map.2 ⟨e,?_,rfl⟩;rw[e1,List.flatten_append,List.flatten_cons] at he;rcases List.mem_append.1 he with he | he
  ·exact absurd (f e (List.mem_append_left _ he)) (lt_irrefl _)
  ·rcases List.mem_append.1 he with he | he
   ·exact he
   ·exact absurd (d e he) (lt_irrefl _)
theorem above(hs:Srt (kys es))(h:∀ e∈es.drop (plc (kys es) k),¬ Lt e.kl k)(hn:thr (kys es) k=false):∀ e∈es.drop (plc (kys es) k),Lt k e.kl:=fun e he=>by
 rcases rO k e.kl with a | a | a
 ·exact a
 ·exfalso;have:k∈kys es:=List.mem_map.2 ⟨e,List.mem_of_mem_drop he,a.symm⟩;rw[(xV hs).2 this] at hn
  cases hn
 ·exact absurd a (h e he)
theorem sS(hP:P≠[])(k:List Int):has P k=thr (kys (P.getD (pgi P k) [])) k:=by
 have e4:P.isEmpty=false:=by simpa using hP
 unfold has;rw[e4,Bool.not_false,Bool.true_and]
theorem tO(O:Ord P)(a:P≠[])(hn:has P e.kl=false):∃ A es B X Y,P=A ++ es :: B/\es=X ++ Y/\gj P e=(if 32 < es.length + 1 then A ++ (X ++ e :: Y).take 16 :: (X ++ e :: Y).drop 16 :: B else A ++ (X ++ e :: Y) :: B) /\
  (∀ x∈A.flatten ++ X,Lt x.kl e.kl)/\(∀ x∈Y ++ B.flatten,Lt e.kl x.kl):=by
 obtain⟨A,es,B,e1,e2,e3,g,c,d⟩:=O.parts a e.kl
 have b:es∈P:=by rw[e1]; simp
 obtain⟨i,hi⟩:=List.getElem?_of_mem b;rw[sS a,e3] at hn;have f:=above (O.page hi) c hn;refine⟨A,es,B,es.take (plc (kys es) e.kl),es.drop (plc (kys es) e.kl),e1,(List.take_append_drop _ _).symm,?_,g,fun x hx=>(List.mem_append.1 hx).elim (f x) (d x)⟩;unfold gj;rw[if_neg a];simp only[e3,hn,Bool.false_eq_true,if_false];rw[<- e2]
 conv=>lhs; rw[e1]
 rw[rn];simp only[List.append_assoc,List.cons_append,List.nil_append]
theorem Ord.ins(O:Ord P)(hn:has P e.kl=false):Ord (gj P e):=by
 by_cases d:P=[]
 ·subst d;exact⟨fun es h=>by simp[gj] at h; simp[h],by simp[gj,Srt,kys]⟩
 obtain⟨A,es,B,X,Y,e1,e2,e3,j,g⟩:=tO O d hn
 have f:(A.flatten ++ X ++ e :: (Y ++ B.flatten)).Pairwise fun x y=>Lt x.kl y.kl:=by
  refine CZ ?_ j g;have:=O.flat;rw[e1,e2,List.flatten_append,List.flatten_cons] at this;simpa only [List.append_assoc] using this
 have c:(X ++ e :: Y).length=es.length + 1:=by rw[e2]; simp; omega
 rw[e3];split
 ·rename_i i;refine Ord.of (fun a b => ?_) ?_
  ·rcases List.mem_append.1 b with b | b
   ·exact O.full a (by rw[e1]; exact List.mem_append_left _ b)
   ·rcases List.mem_cons.1 b with rfl | b
    ·exact fun h=>by have:=congrArg List.length h; rw[List.length_take,c] at this; simp at this
    ·rcases List.mem_cons.1 b with rfl | b
     ·exact fun h=>by have:=congrArg List.length h; rw[List.length_drop,c] at this; simp at this; omega
     ·exact O.full a (by rw[e1]; exact List.mem_append_right _ (List.mem_cons_of_mem _ b))
  ·rw[List.flatten_append,List.flatten_cons,List.flatten_cons,<- List.append_assoc (List.take 16 _),List.take_append_drop];simpa only [List.append_assoc,List.cons_append] using f
 ·refine Ord.of (fun a b => ?_) ?_
  ·rcases List.mem_append.1 b with b | b
   ·exact O.full a (by rw[e1]; exact List.mem_append_left _ b)
   ·rcases List.mem_cons.1 b with rfl | b
    ·simp
    ·exact O.full a (by rw[e1]; exact List.mem_append_right _ (List.mem_cons_of_mem _ b))
  ·rw[List.flatten_append,List.flatten_cons];simpa only [List.append_assoc,List.cons_append] using f
theorem Ord.at(O:Ord P)(c:has P k=true):∃ A es B X x Y,P=A ++ es :: B/\es=X ++ x :: Y/\x.kl=k/\A.length=pgi P k/\P.getD (pgi P k) []=es/\X.length=plc (kys es) k /\
  (∀ y∈A.flatten ++ X,Lt y.kl k)/\(∀ y∈Y ++ B.flatten,Lt k y.kl):=by
 have d:P≠[]:=fun e=>by subst e; simp[has] at c
 obtain⟨A,es,B,e1,e2,e3,j,l,h⟩:=O.parts d k
 have a:es∈P:=by rw[e1]; simp
 obtain⟨i,hi⟩:=List.getElem?_of_mem a;rw[sS d,e3] at c;obtain⟨x,hx,b⟩:=og c;have g:=(List.getElem?_eq_some_iff.1 hx).1
 have f:es=es.take (plc (kys es) k) ++ x :: es.drop (plc (kys es) k + 1):=by
  conv=>lhs; rw[<- List.take_append_drop (plc (kys es) k) es,List.drop_eq_getElem_cons g]
  rw[(List.getElem?_eq_some_iff.1 hx).2]
 refine⟨A,es,B,_,x,_,e1,f,b,e2,e3,by rw[List.length_take]; omega,j,fun y hy => ?_⟩;rcases List.mem_append.1 hy with hy | hy
 ·have:=O.pair.1 es a;rw[f,List.pairwise_append,List.pairwise_cons] at this;rw[<- b];exact this.2.1.1 y hy
 ·exact h y hy
theorem o5{α:Type}(f:α->α):∀ (X Y:List α) (x:α),(X ++ x :: Y).modify X.length f=X ++ f x :: Y
 | [],_,_=>rfl
 | a :: X,Y,x=>by
  show (a :: (X ++ x :: Y)).modify (X.length + 1) f=_
  rw[List.modify_succ_cons,o5 f X Y x]; rfl
theorem sI(O:Ord P)(a:has P e.kl=true):∃ A es B X x Y,P=A ++ es :: B/\es=X ++ x :: Y/\x.kl=e.kl/\gj P e=A ++ (X ++ { x with vv:=e.vv,vl:=e.vl } :: Y) :: B:=by
 have b:P≠[]:=fun h=>by subst h; simp[has] at a
 obtain⟨A,es,B,X,x,Y,e1,e2,e3,d,c,f,_⟩:=O.at a;refine⟨A,es,B,X,x,Y,e1,e2,e3,?_⟩;rw[sS b,c] at a;unfold gj;rw[if_neg b];simp only[c,a,if_true];rw[<- f,<- d]
 conv=>lhs; rw[e1]
 rw[List.set_append_right _ _ (Nat.le_refl _),Nat.sub_self,List.set_cons_zero,e2,o5]
theorem Ord.upd(O:Ord P)(d:has P e.kl=true):Ord (gj P e):=by
 obtain⟨A,es,B,X,x,Y,e1,e2,e3,f⟩:=sI O d;rw[f];have c:=O.gy;rw[e1,e2] at c;refine⟨fun a b => ?_,by simpa[kys,Srt] using c⟩;rcases List.mem_append.1 b with b | b
 ·exact O.full a (by rw[e1]; exact List.mem_append_left _ b)
 ·rcases List.mem_cons.1 b with rfl | b
  ·simp
  ·exact O.full a (by rw[e1]; exact List.mem_append_right _ (List.mem_cons_of_mem _ b))
theorem Ord.set(O:Ord P)(e:En):Ord (gj P e):=by
 cases h:has P e.kl
 ·exact O.ins h
 ·exact O.upd h
end
end Pg
end
section
namespace Pg
section
variable {A B:List Nat}{x x' y:Nat}{P:List (List En)}
def Nb:List Nat->Prop
 | []=>True
 | [_]=>True
 | x :: y :: l=>17<=x + y/\Nb (y :: l)
theorem Nb.get:∀ {l:List Nat},Nb l->∀ {i x y:Nat},l[i]? = some x->l[i + 1]? = some y->17<=x + y
 | [],_,i,x,y,h,_=>by simp at h
 | [a],_,i,x,y,_,h=>by simp at h
 | a :: b :: l,hn,0,x,y,h1,h2=>by
  simp at h1 h2;subst h1 h2;exact hn.1
 | a :: b :: l,hn,i + 1,x,y,h1,h2=>Nb.get (l:=b :: l) hn.2 (by simpa using h1) (by simpa using h2)
theorem ec:∀ {A:List Nat} {x:Nat} {B:List Nat},Nb (A ++ x :: B)<->Nb (A ++ [x])/\Nb (x :: B)
 | [],x,B=>by simp[Nb]
 | [a],x,B=>by simp[Nb]
 | a :: b :: A,x,B=>by
  have:=ec (A:=b :: A) (x:=x) (B:=B);simp only[List.cons_append,Nb] at this ⊢;rw[this,and_assoc]
theorem Nb.front(h:Nb (A ++ [x]))(hx:x<=x'):Nb (A ++ [x']):=by
 induction A with
 | nil=>trivial
 | cons a A ih =>
  cases A with
  | nil=>simp only[List.cons_append,List.nil_append,Nb] at h ⊢; exact⟨by omega,trivial⟩
  | cons b A=>simp only[List.cons_append,Nb] at h ih ⊢; exact⟨h.1,ih h.2⟩
theorem Nb.back(h:Nb (x :: B))(hx:x<=x'):Nb (x' :: B):=by
 cases B with
 | nil=>trivial
 | cons b B=>simp only[Nb] at h ⊢; exact⟨by omega,h.2⟩
theorem Nb.r7(h:Nb (A ++ [x]))(c:∀ a∈A,1<=a)(hy:16<=y):Nb (A ++ [y]):=by
 induction A with
 | nil=>trivial
 | cons a A ih =>
  cases A with
  | nil =>
   have:=c a List.mem_cons_self;simp only[List.cons_append,List.nil_append,Nb];exact⟨by omega,trivial⟩
  | cons b A=>simp only[List.cons_append,Nb] at h ih ⊢; exact⟨h.1,ih h.2 (fun a h=>c a (List.mem_cons_of_mem _ h))⟩
theorem Nb.wJ(h:Nb (x :: B))(hb:∀ b∈B,1<=b)(hy:16<=y):Nb (y :: B):=by
 cases B with
 | nil=>trivial
 | cons b B =>
  have:=hb b List.mem_cons_self;simp only[Nb] at h ⊢;exact⟨by omega,h.2⟩
structure Shq(P:List (List En)):Prop where
 one:∀ es∈P,1<=es.length/\es.length<=32
 two:Nb (P.map List.length)
theorem Shq.shp(h:Shq P):Shp P:=⟨h.one,fun i x y hx hy=>h.two.get (i:=i) (by rw[List.getElem?_map,hx]; rfl) (by rw[List.getElem?_map,hy]; rfl)⟩
theorem Shq.nil:Shq []:=⟨fun _ h=>by simp at h,trivial⟩
theorem Shq.set(h:Shq P)(O:Ord P)(e:En):Shq (gj P e):=by
 by_cases i:P=[]
 ·subst i;exact⟨fun es h=>by simp[gj] at h; simp[h],by simp[gj,Nb]⟩
 cases hk:has P e.kl
 ·obtain⟨A,es,B,X,Y,e1,e2,e3,_⟩:=tO O i hk
  have d:(X ++ e :: Y).length=es.length + 1:=by rw[e2]; simp; omega
  have f:=h.two;rw[e1,List.map_append,List.map_cons,ec] at f;have l:=h.one es (by rw[e1]; simp);rw[e3];split
  ·refine⟨fun a c => ?_,?_⟩
   ·rcases List.mem_append.1 c with c | c
    ·exact h.one a (by rw[e1]; exact List.mem_append_left _ c)
    ·rcases List.mem_cons.1 c with rfl | c
     ·rw[List.length_take,d]; omega
     ·rcases List.mem_cons.1 c with rfl | c
      ·rw[List.length_drop,d]; omega
      ·exact h.one a (by rw[e1]; exact List.mem_append_right _ (List.mem_cons_of_mem _ c))
   ·rw[List.map_append,List.map_cons,List.map_cons,List.length_take,List.length_drop,d,show min 16 (es.length + 1)=16 by omega,ec];refine⟨f.1.r7 (fun a c => ?_) (Nat.le_refl _),⟨by omega,f.2.wJ (fun b hb => ?_) (by omega)⟩⟩
    ·obtain⟨m,g,rfl⟩:=List.mem_map.1 c;exact(h.one m (by rw[e1]; exact List.mem_append_left _ g)).1
    ·obtain⟨k,g,rfl⟩:=List.mem_map.1 hb;exact(h.one k (by rw[e1]; exact List.mem_append_right _ (List.mem_cons_of_mem _ g))).1
  ·refine⟨fun a c => ?_,?_⟩
   ·rcases List.mem_append.1 c with c | c
    ·exact h.one a (by rw[e1]; exact List.mem_append_left _ c)
    ·rcases List.mem_cons.1 c with rfl | c
     ·rw[d]; omega
     ·exact h.one a (by rw[e1]; exact List.mem_append_right _ (List.mem_cons_of_mem _ c))
   ·rw[List.map_append,List.map_cons,d,ec];exact⟨f.1.front (by omega),f.2.back (by omega)⟩
 ·obtain⟨A,es,B,X,x,Y,e1,e2,e3,j⟩:=sI O hk
  have d:(X ++ { x with vv:=e.vv,vl:=e.vl } :: Y).length=es.length:=by rw[e2]; simp
  rw[j];refine⟨fun a c => ?_,?_⟩
  ·rcases List.mem_append.1 c with c | c
   ·exact h.one a (by rw[e1]; exact List.mem_append_left _ c)
   ·rcases List.mem_cons.1 c with rfl | c
    ·rw[d]; exact h.one es (by rw[e1]; simp)
    ·exact h.one a (by rw[e1]; exact List.mem_append_right _ (List.mem_cons_of_mem _ c))
  ·have f:=h.two;rw[e1,List.map_append,List.map_cons] at f;rw[List.map_append,List.map_cons,d];exact f
end
end Pg
end
section
namespace Pg
section
variable {P:List (List En)}{i:Nat}{A B:List Nat}{k:List Int}
theorem l6(h:jnb P i=true):∃ A a b B,P=A ++ a :: b :: B/\A.length=i/\jnQ P i=A ++ (a ++ b) :: B/\a.length + b.length<=16:=by
 unfold jnb at h;rw[Bool.and_eq_true,decide_eq_true_eq,decide_eq_true_eq] at h;obtain⟨d,c⟩:=h
 have g1:P.getD i []=P[i]:=by rw[List.getD_eq_getElem?_getD,List.getElem?_eq_getElem (by omega)]; rfl
 have g2:P.getD (i + 1) []=P[i + 1]:=by rw[List.getD_eq_getElem?_getD,List.getElem?_eq_getElem d]; rfl
 rw[g1,g2] at c;refine⟨P.take i,P[i],P[i + 1],P.drop (i + 2),?_,by rw[List.length_take]; omega,?_,c⟩
 ·conv=>lhs; rw[<- List.take_append_drop i P,List.drop_eq_getElem_cons (show i < P.length by omega),List.drop_eq_getElem_cons d]
 ·unfold jnQ; rw[g1,g2]; simp
theorem Ic{A B:List (List En)}{a b:List En}(h:jnb (A ++ a :: b :: B) A.length=false):17<=a.length + b.length:=by
 unfold jnb at h;simp at h;omega
theorem mP(O:Ord P)(a:has P k=true):∃ A es B X x Y,P=A ++ es :: B/\es=X ++ x :: Y/\x.kl=k/\iM P k=(if X ++ Y=[] then A ++ B else if jnb (A ++ (X ++ Y) :: B) A.length then jnQ (A ++ (X ++ Y) :: B) A.length else if 1<=A.length/\jnb (A ++ (X ++ Y) :: B) (A.length - 1) then jnQ (A ++ (X ++ Y) :: B) (A.length - 1) else A ++ (X ++ Y) :: B) /\
  (∀ y∈A.flatten ++ X,Lt y.kl k)/\(∀ y∈Y ++ B.flatten,Lt k y.kl):=by
 obtain⟨A,es,B,X,x,Y,e1,e2,e3,c,d,e,f,b⟩:=O.at a;refine⟨A,es,B,X,x,Y,e1,e2,e3,?_,f,b⟩;unfold iM rmQ;rw[if_pos a];simp only[d];rw[<- e,<- c]
 have g1:es.take X.length ++ es.drop (X.length + 1)=X ++ Y:=by rw[e2]; simp
 have g2:P.set A.length (X ++ Y)=A ++ (X ++ Y) :: B:=by rw[e1]; simp
 have g3:P.take A.length ++ P.drop (A.length + 1)=A ++ B:=by rw[e1]; simp
 simp only[g1,g2,g3]
theorem Ord.join(O:Ord P)(h:jnb P i=true):Ord (jnQ P i):=by
 obtain⟨A,a,b,B,e1,e2,e3,_⟩:=l6 h;rw[e3];have d:=O.flat;rw[e1] at d;refine Ord.of (fun c hc => ?_) (by simpa using d);rcases List.mem_append.1 hc with hc | hc
 ·exact O.full c (by rw[e1]; exact List.mem_append_left _ hc)
 ·rcases List.mem_cons.1 hc with rfl | hc
  ·intro h;exact O.full a (by rw[e1]; simp) (List.append_eq_nil_iff.1 h).1
  ·exact O.full c (by rw[e1]; simp[hc])
theorem Ord.del(O:Ord P)(k:List Int):Ord (iM P k):=by
 cases hk:has P k
 ·unfold iM; rw[hk]; exact O
 obtain⟨A,es,B,X,x,Y,e1,e2,e3,f,_⟩:=mP O hk;have e:=O.flat;rw[e1,e2] at e
 have d:(A.flatten ++ (X ++ Y) ++ B.flatten).Pairwise fun x y=>Lt x.kl y.kl:=by
  refine e.sublist ?_
  simp only[List.flatten_append,List.flatten_cons,List.append_assoc,List.cons_append];exact(List.Sublist.refl _).append ((List.Sublist.refl _).append (List.sublist_cons_self _ _))
 rw[f];split
 ·rename_i he;rw[he,List.append_nil] at d;refine Ord.of (fun c hc=>O.full c ?_) (by rw[List.flatten_append]; exact d);rw[e1];rcases List.mem_append.1 hc with hc | hc<;>simp[hc]
 ·rename_i he
  have a:Ord (A ++ (X ++ Y) :: B):=Ord.of (fun c hc=>by
   rcases List.mem_append.1 hc with hc | hc
   ·exact O.full c (by rw[e1]; simp[hc])
   ·rcases List.mem_cons.1 hc with rfl | hc
    ·exact he
    ·exact O.full c (by rw[e1]; simp[hc])) (by rw[List.flatten_append,List.flatten_cons,<- List.append_assoc]; exact d)
  split
  ·rename_i b; exact a.join b
  ·split
   ·rename_i b; exact a.join b.2
   ·exact a
theorem yD:∀ {A:List Nat} {x:Nat},Nb (A ++ [x])->Nb A
 | [],_,_=>trivial
 | [_],_,_=>trivial
 | a :: b :: A,x,h=>by
  simp only[List.cons_append,Nb] at h ⊢;exact⟨h.1,yD (A:=b :: A) h.2⟩
theorem Ex{x y:Nat}:Nb (A ++ x :: y :: B)<->Nb (A ++ [x])/\17<=x + y/\Nb (y :: B):=by
 rw[ec]; simp only[Nb]
theorem Shq.del(h : Shq P)(O : Ord P)(k : List Int) : Shq (iM P k) := by
  cases hk : has P k
  · unfold iM; rw[hk]; exact h
  obtain⟨A, es, B, X, x, Y, e1, e2, e3, t, _⟩:= mP O hk
  have s : (X ++ Y).length + 1 = es.length := by rw[e2]; simp; omega
  have e := h.two;rw[e1, List.map_append, List.map_cons, ec] at e;have u := h.one es (by rw[e1]; simp)
  have hA : ∀ a ∈ A, 1 ≤ a.length ∧ a.length ≤ 32 := fun a m => h.one a (by rw[e1]; simp[m])
  have i : ∀ b ∈ B, 1 ≤ b.length ∧ b.length ≤ 32 := fun b hb => h.one b (by rw[e1]; simp[hb])
  rw[t];generalize X ++ Y = Z at s ⊢;split
  · rename_i p
    subst p;simp at s;refine⟨fun c hc => (List.mem_append.1 hc).elim (hA c) (i c), ?_⟩;rw[List.map_append]
    cases B with
    | nil =>
      rw[List.map_nil, List.append_nil];exact yD e.1
    | cons b B =>
      have f := e.2;simp only[List.map_cons, Nb] at f;rw[List.map_cons, ec];exact⟨e.1.front (by omega), f.2⟩
  · rename_i p
    have w : 1 ≤ Z.length := by cases Z with
      | nil => exact absurd rfl p
      | cons => simp
    split
    · rename_i j
      obtain⟨n, a, b, r, g1, g2, g3, g4⟩:= l6 j;obtain⟨rfl, g5⟩:= List.append_inj g1 g2.symm;injection g5 with g5 g6
      subst g5 g6;rw[g3];have f := e.2;simp only[List.map_cons, Nb] at f;have hb := i b List.mem_cons_self;refine⟨fun c hc => ?_, ?_⟩
      · rcases List.mem_append.1 hc with hc | hc
        · exact hA c hc
        · rcases List.mem_cons.1 hc with rfl | hc
          · rw[List.length_append]; omega
          · exact i c (List.mem_cons_of_mem _ hc)
      · rw[List.map_append, List.map_cons, List.length_append, ec]
        refine⟨e.1.r7 (fun a m => ?_) (by omega), f.2.wJ (fun c hc => ?_) (by omega)⟩
        · obtain⟨y, d, rfl⟩:= List.mem_map.1 m; exact(hA y d).1
        · obtain⟨l, d, rfl⟩:= List.mem_map.1 hc; exact(i l (List.mem_cons_of_mem _ d)).1
    · rename_i o
      split
      · rename_i j
        obtain⟨v, j⟩:= j;obtain⟨n, a, b, r, g1, g2, g3, g4⟩:= l6 j
        have g5 : A ++ Z :: B = (n ++ [a]) ++ b :: r := by rw[g1]; simp
        obtain⟨rfl, g6⟩:= List.append_inj g5 (by simp; omega);injection g6 with g6 g7
        subst g6 g7;rw[g3];have d := e.1;rw[List.map_append, List.append_assoc, List.map_cons, List.map_nil, List.cons_append, List.nil_append, Ex] at d;have m := hA a (by simp);refine⟨fun c hc => ?_, ?_⟩
        · rcases List.mem_append.1 hc with hc | hc
          · exact hA c (List.mem_append_left _ hc)
          · rcases List.mem_cons.1 hc with rfl | hc
            · rw[List.length_append]; omega
            · exact i c hc
        · rw[List.map_append, List.map_cons, List.length_append, ec]
          refine⟨d.1.r7 (fun c hc => ?_) (by omega), e.2.wJ (fun c hc => ?_) (by omega)⟩
          · obtain⟨l, d, rfl⟩:= List.mem_map.1 hc; exact(hA l (List.mem_append_left _ d)).1
          · obtain⟨l, d, rfl⟩:= List.mem_map.1 hc; exact(i l d).1
      · rename_i q
        refine⟨fun c hc => ?_, ?_⟩
        · rcases List.mem_append.1 hc with hc | hc
          · exact hA c hc
          · rcases List.mem_cons.1 hc with rfl | hc
            · omega
            · exact i c hc
        · rw[List.map_append, List.map_cons, ec]
          constructor
          · rcases List.eq_nil_or_concat A with rfl | ⟨n, a, rfl⟩
            · trivial
            · have g : 17 ≤ a.length + Z.length := by
                refine Ic (A := n) (B := B) (Bool.eq_false_iff.2 fun g => q ⟨by simp, ?_⟩);simpa using g
              have d := e.1;simp only[List.concat_eq_append, List.map_append, List.append_assoc, List.map_cons, List.map_nil, List.cons_append, List.nil_append] at d ⊢;rw[Ex] at d ⊢;exact⟨d.1, g, trivial⟩
          · cases B with
            | nil => trivial
            | cons b B =>
              have g : 17 ≤ Z.length + b.length := Ic (A := A) (B := B) (Bool.eq_false_iff.2 fun g => o g);have f := e.2;simp only[List.map_cons, Nb] at f ⊢;exact⟨g, f.2⟩
end
end Pg
end
section
namespace Pg
section
variable {es:List En}{P:List (List En)}{f g:List En->List En}
def btw(f t:List Int)(e:En):Bool := !decide (Lt e.kl f) && (decide (t=[]) || decide (Lt e.kl t))
theorem tX:∀ (l:List (List Int)) (k:List Int) (b:Nat),plc (l.take b) k=min (plc l k) b
 | [],k,b=>by simp[plc]
 | x :: l,k,0=>by simp[plc]
 | x :: l,k,b + 1=>by
  rw[List.take_succ_cons,plc,plc];split
  ·rw[tX l k b]; omega
  ·simp
theorem vG : ∀ {es : List En} (_ : es.Pairwise fun x y => Lt x.kl y.kl) (k : List Int), es.take (plc (kys es) k) = es.filter fun e => decide (Lt e.kl k)
  | [], _, _ => by simp
  | x :: es, h, k => by
    have h' := List.pairwise_cons.1 h;rw[show kys (x :: es) = x.kl :: kys es from rfl, plc];by_cases hx : Lt x.kl k
    · rw[if_pos hx, List.take_succ_cons, vG h'.2 k, List.filter_cons_of_pos (by simpa using hx)]
    · rw[if_neg hx, List.take_zero, List.filter_cons_of_neg (by simpa using hx)]
      symm
      rw[List.filter_eq_nil_iff];intro e he a;exact hx ((h'.1 e he).trans (by simpa using a))
theorem o4 : ∀ {es : List En} (_ : es.Pairwise fun x y => Lt x.kl y.kl) (k : List Int), es.drop (plc (kys es) k) = es.filter fun e => !decide (Lt e.kl k)
  | [], _, _ => by simp
  | x :: es, h, k => by
    have h' := List.pairwise_cons.1 h;rw[show kys (x :: es) = x.kl :: kys es from rfl, plc];by_cases hx : Lt x.kl k
    · rw[if_pos hx, List.drop_succ_cons, o4 h'.2 k, List.filter_cons_of_neg (by simpa using hx)]
    · rw[if_neg hx, List.drop_zero]
      symm
      rw[List.filter_eq_self];intro e he;rcases List.mem_cons.1 he with rfl | he
      · simpa using hx
      · have := h'.1 e he
        simp only[Bool.not_eq_true', decide_eq_false_iff_not];exact fun a => hx (this.trans a)
theorem GQ(h:es.Pairwise fun x y=>Lt x.kl y.kl)(f t:List Int):wth es f t=es.filter (btw f t):=by
 unfold wth wM cut;by_cases a:t=[]
 ·rw[if_pos a,List.take_of_length_le (by rw[List.length_drop]; omega),o4 h];congr 1
  funext e
  simp[btw,a]
 ·rw[if_neg a]
  have e1:max (plc (kys es) f) (plc (kys es) t) - plc (kys es) f=plc (kys es) t - plc (kys es) f:=by omega
  have e2:es.filter (btw f t)=(es.filter fun e=>decide (Lt e.kl t)).filter fun e => !decide (Lt e.kl f):=by
   rw[List.filter_filter];congr 1
   funext e
   simp[btw,a]
  have b:kys (es.take (plc (kys es) t))=(kys es).take (plc (kys es) t):=by simp[kys,List.map_take]
  rw[e1,<- List.drop_take,e2,<- vG h,<- o4 (h.sublist (List.take_sublist _ _)),b,tX];by_cases hb:plc (kys es) f<=plc (kys es) t
  ·rw[Nat.min_eq_left hb]
  ·rw[List.drop_of_length_le (by rw[List.length_take]; omega),List.drop_of_length_le (by rw[List.length_take]; omega)]
theorem vp(p:En->Bool):P.flatMap (fun es=>es.filter p)=P.flatten.filter p:=by
 induction P with
 | nil=>rfl
 | cons a P ih=>rw[List.flatMap_cons,ih,List.flatten_cons,List.filter_append]
theorem s8(h:∀ es∈P,f es=g es):P.flatMap f=P.flatMap g:=by
 induction P with
 | nil=>rfl
 | cons a P ih=>rw[List.flatMap_cons,List.flatMap_cons,h a List.mem_cons_self,ih fun es he=>h es (List.mem_cons_of_mem _ he)]
theorem E3(O:Ord P)(f t:List Int):wlk P f t=P.flatten.filter (btw f t):=by
 by_cases d:P=[]
 ·subst d; simp[wlk,cut]
 obtain⟨A,es,B,e1,e2,e3,q,s,u⟩:=O.parts d f
 have hA:(P.take (pgi P f)).flatten.filter (btw f t)=[]:=by
  rw[<- e2];have:P.take A.length=A:=by rw[e1]; simp
  rw[this,List.filter_eq_nil_iff];intro e he hb;have:=q e (List.mem_append_left _ he);simp[btw,this] at hb
 have p:(P.drop (max (pgi P f) (fV P t))).flatten.filter (btw f t)=[]:=by
  rw[List.filter_eq_nil_iff];intro e he hb;unfold fV at he;by_cases k:t=[]
  ·rw[if_pos k,List.drop_of_length_le (by omega)] at he;simp at he
  ·rw[if_neg k] at he;obtain⟨r,o,m,g1,g2,g3,k1,k2,k4⟩:=O.parts d t
   have g5:P.drop (pgi P t + 1)=m:=by
    rw[<- g2]
    conv=>lhs; rw[g1]
    simp
   have c:e∈m.flatten:=by
    obtain⟨a,l,h⟩:=List.mem_flatten.1 he;refine List.mem_flatten.2 ⟨a,?_,h⟩;rw[<- g5]
    have hlen:pgi P t + 1<=P.length:=by rw[<- g2,g1]; simp
    rw[Nat.min_eq_left hlen] at l;obtain⟨j,n⟩:=List.getElem?_of_mem l;rw[List.getElem?_drop] at n;refine List.mem_of_getElem? (i:=max (pgi P f) (pgi P t + 1) + j - (pgi P t + 1)) ?_
    rw[List.getElem?_drop,show pgi P t + 1 + (max (pgi P f) (pgi P t + 1) + j - (pgi P t + 1))=max (pgi P f) (pgi P t + 1) + j by omega];exact n
   have:=k4 e c;simp[btw,k,this.not] at hb
 have b:P=P.take (pgi P f) ++ (cut P (pgi P f) (fV P t) ++ P.drop (max (pgi P f) (fV P t))):=by
  unfold cut
  conv=>lhs; rw[<- List.take_append_drop (pgi P f) P,<- List.take_append_drop (max (pgi P f) (fV P t) - pgi P f) (P.drop (pgi P f))]
  rw[List.drop_drop,show pgi P f + (max (pgi P f) (fV P t) - pgi P f)=max (pgi P f) (fV P t) by omega]
 unfold wlk;rw[s8 (g:=fun es=>es.filter (btw f t)) (fun es he=>GQ (O.pair.1 es (oe he)) f t),vp]
 conv=>rhs; rw[b]
 rw[List.flatten_append,List.flatten_append,List.filter_append,List.filter_append,hA,p,List.nil_append,List.append_nil]
end
end Pg
end
section
namespace Pg
open Go.RowKit Go.Lib
attribute [local go_sem] Oper.semAt_some
theorem Bp.at {w:World} {B p n c:Nat} {l:List Int} (h:Bp w B (.slice (some ⟨p,0,none⟩) n c) l) {i:Nat} {x:Int} (hi:l[i]? = some x):w.cell? ⟨p,i,none⟩=some (.int .i64 x):=by
 obtain⟨b,d,e,_,a⟩:=h.ex
 cases e;exact a.cell (by rw[List.getElem?_map,hi]; rfl)
theorem place_by (k:Int) (n:Nat) (hn:0 < n) (hn2:n<=2147483648) (w:World) :
  Calls Tryz.prog 36 #[.int .i64 k,.int .i64 n] w fun e w'=>∃ m:Nat,m < n/\e=.returned (.int .i64 m)/\w'=w:=by
 have h0:¬ ((n:Int)=0):=by omega
 have h1:¬ ((n:Int) = -1):=by omega
 have b1:=Int.lt_tmod_of_pos k (show (0:Int) < n by omega);have b2:=Int.tmod_lt_of_pos k (show (0:Int) < n by omega);obtain⟨r,hr⟩:∃ r,Int.tmod k n=r:=⟨_,rfl⟩
 rw[hr] at b1 b2
 have b3 : -2147483648<=r/\r<=2147483648:=by omega
 by_cases aa:r < 0
 ·go_enter Tryz.func36,Tryz.ntmps36;go_wp2;go_ret;exact⟨(r + n).toNat,by omega,by rw[Int.toNat_of_nonneg (by omega)]; rfl,rfl⟩
 ·go_enter Tryz.func36,Tryz.ntmps36;go_wp2;go_ret;exact⟨r.toNat,by omega,by rw[Int.toNat_of_nonneg (by omega)]; rfl,rfl⟩
end Pg
end
section
namespace Pg
open Go.RowKit Go.Lib
section
variable {w:World}{k n c p:Nat}{es:List En}
attribute [local go_sem] Oper.semAt_some
theorem run_iq{a:Act}{op:Oper}{x y b:Nat}(ho:op.op=.indexAddr 46 (.tmp x) (.tmp y))(hx:a.eval (.tmp x)=.slice (some ⟨b,0,none⟩) n c){z:Int}(hy:a.eval (.tmp y)=.int .i64 z)(hz:z=(k:Int))(hk:k < n):(execOp a.eval op).run Tryz.prog w=.ok (.value (.pointer (some ⟨b,k * 2,none⟩))) w:=by
 subst hz
 have h1:(k:Int) < n:=by omega
 have h2:¬ ((k:Int) < 0):=by omega
 obtain⟨i0,hi,hz0,hs0,hb0⟩:=info_parts (P:=Tryz.prog) KQ.inf;simp only[execOp,ho,hx,hy];go_simp
theorem pcells{w':World}{e i j i2 f:Nat}{a b c d:Value}(h:w.cell? ⟨p,i,none⟩=some a/\w.cell? ⟨p,j,none⟩=some b/\w.cell? ⟨e,i2,none⟩=some c/\w.cell? ⟨e,f,none⟩=some d)(k:p < w.heap.size)(g:e < w.heap.size)(hb:Below w.heap.size w w') :
  w'.cell? ⟨p,i,none⟩=some a/\w'.cell? ⟨p,j,none⟩=some b/\w'.cell? ⟨e,i2,none⟩=some c/\w'.cell? ⟨e,f,none⟩=some d:=by
 refine⟨?_,?_,?_,?_⟩
 ·rw[hb.cell (p:=⟨p,i,none⟩) k]; exact h.1
 ·rw[hb.cell (p:=⟨p,j,none⟩) k]; exact h.2.1
 ·rw[hb.cell (p:=⟨e,i2,none⟩) g]; exact h.2.2.1
 ·rw[hb.cell (p:=⟨e,f,none⟩) g]; exact h.2.2.2
theorem yc:∀ {es:List En} {k:Nat} {e:En},es[k]? = some e->(flat es)[k * 2]? = some e.kv/\(flat es)[k * 2 + 1]? = some e.vv
 | [],k,e,h=>by simp at h
 | a :: es,0,e,h=>by simp at h; subst h; exact⟨rfl,rfl⟩
 | a :: es,k + 1,e,h=>by
  have:=yc (es:=es) (k:=k) (e:=e) (by simpa using h);rw[show (k + 1) * 2=k * 2 + 1 + 1 by omega];simpa[flat] using this
theorem PrA.cells{B:Nat}(h:PrA w B (.slice (some ⟨p,0,none⟩) n c) es){e:En}(a:es[k]? = some e):w.cell? ⟨p,k * 2,none⟩=some e.kv/\w.cell? ⟨p,k * 2 + 1,none⟩=some e.vv/\p < w.heap.size:=by
 rcases h.ex with⟨e1,rfl⟩ | ⟨b,c',e1,hl,hR⟩
 ·simp at a
 ·cases e1;obtain⟨f,d⟩:=yc a;exact⟨hR.cell f,hR.cell d,hR.lt⟩
end
end Pg
end
section
namespace Pg
section
variable {P:List (List En)}{e:En}{k:List Int}
theorem gw(O:Ord P)(hn:has P e.kl=false):∃ X Y,P.flatten=X ++ Y/\(gj P e).flatten=X ++ e :: Y/\(∀ x∈X,Lt x.kl e.kl)/\(∀ y∈Y,Lt e.kl y.kl):=by
 by_cases a:P=[]
 ·subst a;exact⟨[],[],rfl,by simp[gj],by simp,by simp⟩
 obtain⟨A,es,B,X,Y,e1,e2,e3,c,b⟩:=tO O a hn;refine⟨A.flatten ++ X,Y ++ B.flatten,by rw[e1,e2]; simp,?_,c,b⟩;rw[e3];split
 ·rw[List.flatten_append,List.flatten_cons,List.flatten_cons,<- List.append_assoc (List.take 16 _),List.take_append_drop];simp
 ·simp
theorem gC(O:Ord P)(a:has P e.kl=true):∃ X x Y,P.flatten=X ++ x :: Y/\x.kl=e.kl/\(gj P e).flatten=X ++ { x with vv:=e.vv,vl:=e.vl } :: Y:=by
 obtain⟨A,es,B,X,x,Y,e1,e2,e3,b⟩:=sI O a;refine⟨A.flatten ++ X,x,Y ++ B.flatten,by rw[e1,e2]; simp,e3,by rw[b]; simp⟩
theorem oW{i:Nat}(h:jnb P i=true):(jnQ P i).flatten=P.flatten:=by
 obtain⟨A,a,b,B,e1,e2,e3,_⟩:=l6 h;rw[e3,e1]; simp
theorem lM(O:Ord P)(a:has P k=true):∃ X x Y,P.flatten=X ++ x :: Y/\x.kl=k/\(iM P k).flatten=X ++ Y:=by
 obtain⟨A,es,B,X,x,Y,e1,e2,e3,b,_⟩:=mP O a;refine⟨A.flatten ++ X,x,Y ++ B.flatten,by rw[e1,e2]; simp,e3,?_⟩
 have g:(A ++ (X ++ Y) :: B).flatten=A.flatten ++ X ++ (Y ++ B.flatten):=by simp
 rw[b,<- g];split
 ·rename_i h; rw[h]; simp
 ·split
  ·rename_i h; exact oW h
  ·split
   ·rename_i h; exact oW h.2
   ·rfl
theorem oU(hk:has P k=false):iM P k=P:=by unfold iM; rw[hk]; rfl
theorem Gh(O:Ord P)(e:En):(gj P e).flatten.length=P.flatten.length + if has P e.kl then 0 else 1:=by
 cases h:has P e.kl
 ·obtain⟨X,Y,e1,e2,_⟩:=gw O h;rw[e1,e2]; simp; omega
 ·obtain⟨X,x,Y,e1,_,e2⟩:=gC O h;rw[e1,e2]; simp
theorem has_set(O:Ord P)(e:En)(k:List Int):has (gj P e) k=(decide (k=e.kl) || has P k):=by
 rw[Bool.eq_iff_iff,Bool.or_eq_true,decide_eq_true_eq,j6 (O.set e),j6 O]
 cases h:has P e.kl
 ·obtain⟨X,Y,e1,e2,_⟩:=gw O h;rw[e1,e2];simp only[kys,List.map_append,List.map_cons,List.mem_append,List.mem_cons];constructor
  ·rintro(h | h | h)
   ·exact .inr (.inl h)
   ·exact .inl h
   ·exact .inr (.inr h)
  ·rintro(h | h | h)
   ·exact .inr (.inl h)
   ·exact .inl h
   ·exact .inr (.inr h)
 ·obtain⟨X,x,Y,e1,e3,e2⟩:=gC O h;rw[e1,e2];simp only[kys,List.map_append,List.map_cons,List.mem_append,List.mem_cons,e3];constructor
  ·exact .inr
  ·rintro(h | h)
   ·exact .inr (.inl h)
   ·exact h
theorem has_del(O:Ord P)(a k:List Int):has (iM P a) k=(has P k && !decide (k=a)):=by
 cases h:has P a
 ·rw[oU h];by_cases e:k=a
  ·subst e; rw[h]; simp
  ·simp[e]
 ·rw[Bool.eq_iff_iff,Bool.and_eq_true,j6 (O.del a),j6 O];obtain⟨X,x,Y,e1,e3,e2⟩:=lM O h;have b:=O.flat;rw[e1,List.pairwise_append,List.pairwise_cons] at b;rw[e1,e2];simp only[kys,List.map_append,List.map_cons,List.mem_append,List.mem_cons,e3,Bool.not_eq_true',decide_eq_false_iff_not];constructor
  ·intro hm;refine⟨hm.elim .inl (fun h=>.inr (.inr h)),fun e => ?_⟩;subst e;rcases hm with hm | hm
   ·obtain⟨y,hy,e⟩:=List.mem_map.1 hm;have:=b.2.2 y hy x List.mem_cons_self;rw[e,e3] at this;exact lt_irrefl _ this
   ·obtain⟨y,hy,e⟩:=List.mem_map.1 hm;have:=b.2.1.1 y hy;rw[e,e3] at this;exact lt_irrefl _ this
  ·rintro⟨h | h | h,c⟩
   ·exact .inl h
   ·exact absurd h c
   ·exact .inr h
end
end Pg
end
section
namespace Pg
section
variable {P:List (List En)}{k:List Int}
abbrev KV:=List Int × List Int
def abs(P:List (List En)):List (List KV):=P.map fun es=>es.map En.kl2
def apl(Q:List (List KV))(k:List Int):Nat:=plq (Q.map fun es=>(es.map Prod.fst).headD []) k - 1
def iy(Q:List (List KV))(k:List Int):Bool := !Q.isEmpty && thr ((Q.getD (apl Q k) []).map Prod.fst) k
def Bm(Q:List (List KV))(k:List Int):List Int:=((Q.getD (apl Q k) [])[plc ((Q.getD (apl Q k) []).map Prod.fst) k]?.map Prod.snd).getD []
def ains(Q:List (List KV))(i q:Nat)(x:KV):List (List KV) :=
 let es:=(Q.getD i []).take q ++ [x] ++ (Q.getD i []).drop q
 if 32 < es.length then Q.take i ++ [es.take 16,es.drop 16] ++ Q.drop (i + 1) else Q.set i es
def qq(Q:List (List KV))(k v:List Int):List (List KV) :=
 if Q=[] then [[(k,v)]]
 else
  let i:=apl Q k
  let es:=Q.getD i []
  let q:=plc (es.map Prod.fst) k
  if thr (es.map Prod.fst) k then Q.set i (es.modify q fun x=>(x.1,v)) else ains Q i q (k,v)
def Hd(Q:List (List KV))(i:Nat):Bool:=decide (i + 1 < Q.length) && decide ((Q.getD i []).length + (Q.getD (i + 1) []).length<=16)
def ajn(Q:List (List KV))(i:Nat):List (List KV):=Q.take i ++ [Q.getD i [] ++ Q.getD (i + 1) []] ++ Q.drop (i + 2)
def arm(Q:List (List KV))(i q:Nat):List (List KV) :=
 let es:=(Q.getD i []).take q ++ (Q.getD i []).drop (q + 1)
 if es=[] then Q.take i ++ Q.drop (i + 1)
 else
  let Q1:=Q.set i es
  if Hd Q1 i then ajn Q1 i else if 1<=i/\Hd Q1 (i - 1) then ajn Q1 (i - 1) else Q1
def qu(Q:List (List KV))(k:List Int):List (List KV) :=
 if iy Q k then arm Q (apl Q k) (plc ((Q.getD (apl Q k) []).map Prod.fst) k) else Q
def jM(f t:List Int)(x:KV):Bool := !decide (Lt x.1 f) && (decide (t=[]) || decide (Lt x.1 t))
theorem j0(es:List En):(es.map En.kl2).map Prod.fst=kys es:=by rw[List.map_map]; rfl
theorem eL(P:List (List En))(i:Nat):(abs P).getD i []=(P.getD i []).map En.kl2:=by
 simp only[abs,List.getD_eq_getElem?_getD,List.getElem?_map]
 cases P[i]? <;> rfl
theorem ox(P:List (List En))(k:List Int):apl (abs P) k=pgi P k:=by
 unfold apl pgi abs fks;rw[List.map_map];congr 2
 apply List.map_congr_left;intro es _;simp only[Function.comp_apply,j0]
theorem ig(P:List (List En))(k:List Int):iy (abs P) k=has P k:=by
 unfold iy has;rw[ox,eL,j0]
 cases P<;>rfl
theorem Gz(P:List (List En))(k:List Int):Bm (abs P) k=got P k:=by
 unfold Bm got;rw[ox,eL,j0,List.getElem?_map,Option.map_map];rfl
theorem oL{α β:Type}{f:α->α}{g:α->β}{f':β->β}(h:∀ x,g (f x)=f' (g x)):∀ (l:List α) (q:Nat),(l.modify q f).map g=(l.map g).modify q f'
 | [],q=>by cases q<;>rfl
 | a :: l,0=>by simp[h]
 | a :: l,q + 1=>by simp[oL h l q]
theorem FT:abs P=[]<->P=[]:=by simp[abs]
theorem kY(P:List (List En))(i:Nat)(es:List En):abs (P.set i es)=(abs P).set i (es.map En.kl2):=by simp[abs,List.map_set]
theorem GM(P:List (List En)):(abs P).length=P.length:=by simp[abs]
theorem Gp(P:List (List En))(i q:Nat)(e:En):abs (sd P i q e)=ains (abs P) i q (e.kl,e.vl):=by
 have h:(((abs P).getD i []).take q ++ [(e.kl,e.vl)] ++ ((abs P).getD i []).drop q)=((P.getD i []).take q ++ [e] ++ (P.getD i []).drop q).map En.kl2:=by
  rw[eL];simp[List.map_take,List.map_drop,En.kl2]
 unfold ains sd;simp only;rw[h];simp only[List.length_map];split
 ·simp[abs,List.map_take,List.map_drop]
 ·rw[kY]
theorem oC(P:List (List En))(e:En):abs (gj P e)=qq (abs P) e.kl e.vl:=by
 unfold gj qq;by_cases h:P=[]
 ·subst h; rfl
 rw[if_neg h,if_neg (fun e=>h (FT.1 e))];simp only;rw[ox,eL,j0];split
 ·rw[kY,oL (f':=fun x=>(x.1,e.vl)) (fun x=>rfl)]
 ·rw[Gp]
theorem xX(P:List (List En))(i:Nat):Hd (abs P) i=jnb P i:=by
 unfold Hd jnb;rw[eL,eL,GM,List.length_map,List.length_map]
theorem Bw(P:List (List En))(i:Nat):ajn (abs P) i=abs (jnQ P i):=by
 unfold ajn jnQ;rw[eL,eL];simp[abs,List.map_take,List.map_drop]
theorem rM(P:List (List En))(k:List Int):abs (iM P k)=qu (abs P) k:=by
 unfold iM qu;rw[ig];split
 ·rw[ox,eL,j0];unfold rmQ arm;simp only;rw[eL]
  have h:∀ q,(((P.getD (pgi P k) []).map En.kl2).take q ++ ((P.getD (pgi P k) []).map En.kl2).drop (q + 1))=((P.getD (pgi P k) []).take q ++ (P.getD (pgi P k) []).drop (q + 1)).map En.kl2:=fun q=>by
   simp[List.map_take,List.map_drop]
  rw[h,<- kY,xX,xX,Bw,Bw];simp only[List.map_eq_nil_iff];split
  ·simp[abs,List.map_take,List.map_drop]
  ·split
   ·rfl
   ·split<;>rfl
 ·rfl
theorem dE(P:List (List En)):(abs P).flatten=P.flatten.map En.kl2:=by
 unfold abs;rw[List.map_flatten]
theorem BN(O:Ord P)(f t:List Int):(wlk P f t).map En.kl2=(abs P).flatten.filter (jM f t):=by
 rw[E3 O,dE,List.filter_map];rfl
theorem abs_sizes(P:List (List En)):(abs P).map List.length=P.map List.length:=by
 simp[abs,Function.comp_def]
def gY(Q:List (List KV)):Prop:=∃ P,abs P=Q/\Ord P
theorem gY.set{Q:List (List KV)}(h:gY Q)(k v:List Int):gY (qq Q k v):=by
 obtain⟨P,rfl,O⟩:=h;exact⟨gj P ⟨undef,k,undef,v⟩,oC P _,O.set _⟩
theorem gY.del{Q:List (List KV)}(h:gY Q)(k:List Int):gY (qu Q k):=by
 obtain⟨P,rfl,O⟩:=h;exact⟨iM P k,rM P _,O.del _⟩
theorem gY.nil:gY []:=⟨[],rfl,⟨fun _ h=>by simp at h,List.Pairwise.nil⟩⟩
theorem gY.flat{Q:List (List KV)}(h:gY Q):Q.flatten.Pairwise fun x y=>Lt x.1 y.1:=by
 obtain⟨P,rfl,O⟩:=h;rw[dE,List.pairwise_map];exact O.flat
theorem gY.j6{Q:List (List KV)}(h:gY Q)(k:List Int):iy Q k=true<->k∈Q.flatten.map Prod.fst:=by
 obtain⟨P,rfl,O⟩:=h;rw[ig,Pg.j6 O,dE,j0]
theorem gY.j3{Q:List (List KV)}(h:gY Q)(v:List Int)(hn:iy Q k=false):∃ X Y,Q.flatten=X ++ Y/\(qq Q k v).flatten=X ++ (k,v) :: Y/\(∀ x∈X,Lt x.1 k)/\(∀ y∈Y,Lt k y.1):=by
 obtain⟨P,rfl,O⟩:=h;rw[ig] at hn;obtain⟨X,Y,e1,e2,b,a⟩:=gw O (e:=⟨undef,k,undef,v⟩) hn;refine⟨X.map En.kl2,Y.map En.kl2,by rw[dE,e1,List.map_append],?_,?_,?_⟩
 ·rw[<- oC P ⟨undef,k,undef,v⟩,dE,e2];simp[En.kl2]
 ·intro x hx;obtain⟨e,he,rfl⟩:=List.mem_map.1 hx;exact b e he
 ·intro x hx;obtain⟨e,he,rfl⟩:=List.mem_map.1 hx;exact a e he
theorem gY.ym{Q:List (List KV)}(h:gY Q)(v:List Int)(hn:iy Q k=true):∃ X x Y,Q.flatten=X ++ (k,x) :: Y/\(qq Q k v).flatten=X ++ (k,v) :: Y:=by
 obtain⟨P,rfl,O⟩:=h;rw[ig] at hn;obtain⟨X,x,Y,e1,hx,e2⟩:=gC O (e:=⟨undef,k,undef,v⟩) hn;refine⟨X.map En.kl2,x.vl,Y.map En.kl2,?_,?_⟩
 ·rw[dE,e1];simp[En.kl2,hx]
 ·rw[<- oC P ⟨undef,k,undef,v⟩,dE,e2];simp[En.kl2,hx]
theorem gY.FD{Q:List (List KV)}(h:gY Q)(hn:iy Q k=true):∃ X x Y,Q.flatten=X ++ (k,x) :: Y/\(qu Q k).flatten=X ++ Y:=by
 obtain⟨P,rfl,O⟩:=h;rw[ig] at hn;obtain⟨X,x,Y,e1,hx,e2⟩:=lM O hn;refine⟨X.map En.kl2,x.vl,Y.map En.kl2,?_,?_⟩
 ·rw[dE,e1];simp[En.kl2,hx]
 ·rw[<- rM P k,dE,e2];simp
theorem Be{Q:List (List KV)}(hn:iy Q k=false):qu Q k=Q:=by
 unfold qu;rw[hn];rfl
end
end Pg
end
end Go.Proofs.YthfepflplbahkaaGreatDoor
