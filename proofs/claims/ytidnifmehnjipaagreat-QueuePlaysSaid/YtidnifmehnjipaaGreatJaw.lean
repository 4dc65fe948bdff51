import Derived.Test.YtidnifmehnjipaaGreatJav
set_option maxRecDepth 100000
set_option maxHeartbeats 8000000
namespace Go.Proofs.YtidnifmehnjipaaGreat
section
namespace Qu
open Go.RowKit Go.Lib Pg Lim Gl Kv Bk Pw
set_option linter.unusedVariables false
set_option linter.unusedSimpArgs false
section
variable {i k a b:Int}
abbrev Uq(x:Int):Prop:=0<=x/\x < 18446744073709551616
def Ok(k a b:Int):Prop:=((k=2/\a=0/\b=0)\/(k=12/\b=0)\/(k=13/\b=0)\/k=14\/k=15\/k=17)/\Uq a/\Uq b
theorem ok2:Ok 2 0 0:=⟨.inl ⟨rfl,rfl,rfl⟩,by decide,by decide⟩
theorem ok12(h:Uq i):Ok 12 i 0:=⟨.inr (.inl ⟨rfl,rfl⟩),h,by decide⟩
theorem ok13(h:Uq i):Ok 13 i 0:=⟨.inr (.inr (.inl ⟨rfl,rfl⟩)),h,by decide⟩
theorem okr(hk:k=12\/k=13)(h:Uq i):Ok k i 0:=by
 rcases hk with rfl | rfl
 ·exact ok12 h
 ·exact ok13 h
theorem sV(h:Uq a)(h2:Uq b):Ok 14 a b:=⟨by simp,h,h2⟩
theorem uP(h:Uq a)(h2:Uq b):Ok 15 a b:=⟨by simp,h,h2⟩
theorem l4(h:Uq a)(h2:Uq b):Ok 17 a b:=⟨by simp,h,h2⟩
theorem Ok.nat(h:Ok k a b):∃ n:Nat,k=(n:Int)/\n < 18/\0 < n/\Ky.mkE k a b=false:=by
 rcases h.1 with⟨rfl,rfl,rfl⟩ | ⟨rfl,rfl⟩ | ⟨rfl,rfl⟩ | rfl | rfl | rfl
 ·exact⟨2,rfl,by decide,by decide,nV⟩
 ·exact⟨12,rfl,by decide,by decide,gR a⟩
 ·exact⟨13,rfl,by decide,by decide,gP a⟩
 ·exact⟨14,rfl,by decide,by decide,kZ a b⟩
 ·exact⟨15,rfl,by decide,by decide,ly a b⟩
 ·exact⟨17,rfl,by decide,by decide,jT a b⟩
theorem yW{k' a' b':Int}(h:Ok k a b)(c:Ok k' a' b')(e:Ky.mk k a b=Ky.mk k' a' b'):k=k'/\a=a'/\b=b':=by
 obtain⟨n,rfl,f,g,d⟩:=h.nat;obtain⟨m,rfl,m1,m2,m3⟩:=c.nat;obtain⟨e1,e2,e3⟩:=Ky.mk_inj f g m1 m2 h.2.1 h.2.2 c.2.1 c.2.2 d m3 e;exact⟨by rw[e1],e2,e3⟩
end
section
variable {E:ay} {k a b k' a' b':Int} {v:List Int}
theorem lkp (d:cI E) (h:Ok k a b) (c:Ok k' a' b'):Kv.look (put E (Ky.mk k a b) v) (Ky.mk k' a' b')=if k=k'/\a=a'/\b=b' then some v else Kv.look E (Ky.mk k' a' b'):=by
 rw[BO d];by_cases e:k=k'/\a=a'/\b=b'
 ·rw[if_pos e,if_pos (by rw[e.1,e.2.1,e.2.2])]
 ·rw[if_neg e,if_neg (fun x=>e (yW h c x))]
theorem lkr (d:cI E) (h:Ok k a b) (c:Ok k' a' b'):Kv.look (Kv.rem E (Ky.mk k a b)) (Ky.mk k' a' b')=if k=k'/\a=a'/\b=b' then none else Kv.look E (Ky.mk k' a' b'):=by
 rw[zd d];by_cases e:k=k'/\a=a'/\b=b'
 ·rw[if_pos e,if_pos (by rw[e.1,e.2.1,e.2.2])]
 ·rw[if_neg e,if_neg (fun x=>e (yW h c x))]
end
section
variable {x x0 x1 x2 x3 x4 x5:Int}
theorem DH(hx:Uq x):bE (nv x)=x:=by
 obtain⟨c,a,b⟩:=Rc.jg (fun o=>([x]:List Int).getD o 0) [(0,0)] [] (fun _=>0) (by decide) (List.forall_mem_cons.2 ⟨hx,fun _ h=>by cases h⟩);rw[List.append_nil] at a
 have e:Rc.bM (nv x)=(0,[],c):=a;unfold bE;rw[e];exact b.1 (0,0) (by simp)
theorem vL(r0:Uq x0)(r1:Uq x1)(g:Uq x2)(c:Uq x3)(d:Uq x4)(f:Uq x5):uX (uv x0 x1 x2 x3 x4 x5) 0=x0/\uX (uv x0 x1 x2 x3 x4 x5) 1=x1/\uX (uv x0 x1 x2 x3 x4 x5) 2=x2/\uX (uv x0 x1 x2 x3 x4 x5) 3=x3/\uX (uv x0 x1 x2 x3 x4 x5) 4=x4/\uX (uv x0 x1 x2 x3 x4 x5) 5=x5:=by
 obtain⟨i,b,a⟩:=Rc.jg (fun o=>([x0,x1,x2,x3,x4,x5]:List Int).getD o 0) [(0,0),(0,1),(0,2),(0,3),(0,4),(0,5)] [] (fun _=>0) (by decide) (List.forall_mem_cons.2 ⟨r0,List.forall_mem_cons.2 ⟨r1,List.forall_mem_cons.2 ⟨g,List.forall_mem_cons.2 ⟨c,List.forall_mem_cons.2 ⟨d,List.forall_mem_cons.2 ⟨f,fun _ h=>by cases h⟩⟩⟩⟩⟩⟩);rw[List.append_nil] at b
 have e:Rc.aI (uv x0 x1 x2 x3 x4 x5)=(0,[],i):=b;unfold uX;rw[e];exact⟨a.1 (0,0) (by simp),a.1 (0,1) (by simp),a.1 (0,2) (by simp),a.1 (0,3) (by simp),a.1 (0,4) (by simp),a.1 (0,5) (by simp)⟩
theorem wg{a:Int}(r0:Uq x0)(r1:Uq x1)(j:Uq x2)(d:Uq x3)(g:Uq x4)(i:Uq x5)(f:0<=a):(mX (mv x0 x1 x2 x3 x4 x5 a) 0=x0/\mX (mv x0 x1 x2 x3 x4 x5 a) 1=x1/\mX (mv x0 x1 x2 x3 x4 x5 a) 2=x2)/\(mX (mv x0 x1 x2 x3 x4 x5 a) 3=x3/\mX (mv x0 x1 x2 x3 x4 x5 a) 4=x4/\mX (mv x0 x1 x2 x3 x4 x5 a) 5=x5)/\mX (mv x0 x1 x2 x3 x4 x5 a) 6=Rc.fit a:=by
 obtain⟨k,c,b⟩:=Rc.jg (fun o=>([x0,x1,x2,x3,x4,x5,a]:List Int).getD o 0) [(0,0),(0,1),(0,2),(0,3),(0,4),(0,5),(2,6)] [] (fun _=>0) (by decide) (List.forall_mem_cons.2 ⟨r0,List.forall_mem_cons.2 ⟨r1,List.forall_mem_cons.2 ⟨j,List.forall_mem_cons.2 ⟨d,List.forall_mem_cons.2 ⟨g,List.forall_mem_cons.2 ⟨i,List.forall_mem_cons.2 ⟨f,fun _ h=>by cases h⟩⟩⟩⟩⟩⟩⟩);rw[List.append_nil] at c
 have e:Rc.bu (mv x0 x1 x2 x3 x4 x5 a)=(0,[],k):=c;unfold mX;rw[e];exact⟨⟨b.1 (0,0) (by simp),b.1 (0,1) (by simp),b.1 (0,2) (by simp)⟩,⟨b.1 (0,3) (by simp),b.1 (0,4) (by simp),b.1 (0,5) (by simp)⟩,b.1 (2,6) (by simp)⟩
theorem rA{y:Int}(hx:Uq x)(hy:Uq y):ey (pv x y)=x/\aJ (pv x y)=y:=Bk.CM hx hy
structure Qe where
 id:Int
 k:Int
 del:Int
 val:Int
 due:Int
def cnt(A:List Qe)(a b:Int):Nat:=A.countP (fun e=>decide (e.del=a/\e.val=b))
def vP(e:Qe)(l:List Int):Prop:=(e.k=12->uX l 0=e.del/\uX l 1=e.val/\uX l 3=e.due)/\(e.k=13->mX l 0=e.del/\mX l 1=e.val/\mX l 4=e.due)
structure Qs(E:ay)(nx:Int)(A:List Qe):Prop where
 dA:cI E
 keys:∀ x∈E,∃ k a b,Ok k a b/\x.1=Ky.mk k a b
 next:aJ (chn E)=nx
 hgt:Uq (ey (chn E))
 nx0:0<=nx
 ids:A.Pairwise (fun x y=>x.id≠y.id)
 jo:∀ e∈A,(e.k=12\/e.k=13)/\(0<=e.id/\e.id < nx)/\Uq e.del/\Uq e.val/\Uq e.due
 AS:∀ e∈A,∃ l,Kv.look E (Ky.mk e.k e.id 0)=some l/\vP e l
 oW:∀ k i,(k=12\/k=13)->Uq i->(∀ e∈A,¬ (e.id=i/\e.k=k))->Kv.look E (Ky.mk k i 0)=none
 dues:∀ d i,Uq d->Uq i->∀ v,Kv.look E (Ky.mk 14 d i)=some v<->∃ e∈A,e.id=i/\e.due=d/\v=nv e.k
 srcs:∀ d i,Uq d->Uq i->∀ v,Kv.look E (Ky.mk 15 d i)=some v<->∃ e∈A,e.id=i/\e.val=d/\v=nv e.k
 ET:∀ a b,Uq a->Uq b->Kv.look E (Ky.mk 17 a b)=if cnt A a b=0 then none else some (nv (cnt A a b:Nat))
end
section
variable {E:ay} {nx:Int} {A:List Qe}
section
variable {a b:Int}{e:Qe}{k v r:List Int}
theorem kB(A:List Qe)(a b:Int):Qu.cnt A a b<=A.length:=List.countP_le_length
theorem Qs.dq(h:Qs E nx A)(c:Uq a)(hb:Uq b)(hA:A.length<=1000000):Qu.dq E a b=(Qu.cnt A a b:Nat):=by
 have d:=kB A a b;unfold Qu.dq got;rw[h.ET a b c hb];split
 ·rename_i e;rw[e];exact rH
 ·show bE (nv _)=_
  exact DH ⟨by omega,by omega⟩
theorem Qs.one(h:Qs E nx A){f:Qe}(he:e∈A)(hf:f∈A)(c:e.id=f.id):e=f:=by
 have:=h.ids;clear h
 induction A with
 | nil=>cases he
 | cons x A ih =>
  rw[List.pairwise_cons] at this;rcases List.mem_cons.1 he with b | b<;>rcases List.mem_cons.1 hf with a | a
  ·rw[b,a]
  ·exact absurd (by rw[<- b];exact c) (this.1 f a)
  ·exact absurd (by rw[<- a];exact c.symm) (this.1 e b)
  ·exact ih b a this.2
theorem sE{x:KV}(h:x∈put E k v):x∈E\/x.1=k:=(Pw.CY h).imp id (fun e=>by rw[e])
theorem eE{k:Int}(h:∀ x∈E,∃ k a b,Ok k a b/\x.1=Ky.mk k a b)(ho:Ok k a b):∀ x∈put E (Ky.mk k a b) v,∃ k a b,Ok k a b/\x.1=Ky.mk k a b:=fun x hx=>(sE hx).elim (h x) (fun e=>⟨k,a,b,ho,e⟩)
theorem eT(h:∀ x∈E,∃ k a b,Ok k a b/\x.1=Ky.mk k a b):∀ x∈Kv.rem E k,∃ k a b,Ok k a b/\x.1=Ky.mk k a b:=fun x hx=>h x (List.mem_filter.1 hx).1
theorem qq(A:List Qe)(e:Qe)(a b:Int):Qu.cnt (A ++ [e]) a b=Qu.cnt A a b + if e.del=a/\e.val=b then 1 else 0:=by
 unfold Qu.cnt;rw[List.countP_append];by_cases h:e.del=a/\e.val=b
 ·rw[if_pos h];simp[h]
 ·rw[if_neg h];simp[h]
def E1b(E:ay)(i:Int)(e:Qe)(r:List Int):ay:=put (put (put (dD E) (Ky.mk e.k i 0) r) (Ky.mk 14 e.due i) (nv e.k)) (Ky.mk 15 e.val i) (nv e.k)
theorem lZ(h:cI E):cI (dD E):=h.put _ _
theorem rV(h:cI E)(i:Int)(e:Qe)(r:List Int):cI (E1b E i e r):=(((lZ h).put _ _).put _ _).put _ _
theorem sH(h:cI E){i:Int}(f:e.k=12\/e.k=13)(hi:Uq i)(g:Uq e.val)(d:Uq e.due){k:Int}(c:Ok k a b):Kv.look (E1b E i e r) (Ky.mk k a b)=if 15=k/\e.val=a/\i=b then some (nv e.k) else if 14=k/\e.due=a/\i=b then some (nv e.k) else if e.k=k/\i=a/\0=b then some r else if 2=k/\0=a/\0=b then some (pv (ey (chn E)) ((aJ (chn E) + 1) % 18446744073709551616)) else Kv.look E (Ky.mk k a b):=by
 unfold E1b;rw[lkp (((lZ h).put _ _).put _ _) (uP g hi) c,lkp ((lZ h).put _ _) (sV d hi) c,lkp (lZ h) (okr f hi) c];unfold dD;rw[lkp h ok2 c]
theorem nq(h:Qs E nx A)(g:nx+1 < 18446744073709551616)(hA:A.length<=100000)(f:e.k=12\/e.k=13)(a:Uq e.del)(b:Uq e.val)(d:Uq e.due) :
  eS E e.k r e.del e.val e.due=put (E1b E nx e r) (Ky.mk 17 e.del e.val) (nv ((Qu.cnt A e.del e.val+1:Nat):Int))/\pw (put (dD E) (Ky.mk e.k nx 0) r) e.k nx e.del e.val e.due=put (E1b E nx e r) (Ky.mk 17 e.del e.val) (nv ((Qu.cnt A e.del e.val+1:Nat):Int)):=by
 have hi:Uq nx:=⟨h.nx0,by omega⟩
 have hc:Qu.dq (E1b E nx e r) e.del e.val=(Qu.cnt A e.del e.val:Nat):=by
  rw[<- h.dq a b (by omega)];unfold Qu.dq got;rw[sH h.dA f hi b d (l4 a b),if_neg (by simp),if_neg (by simp),if_neg (by omega),if_neg (by simp)]
 have i:=kB A e.del e.val
 have c:((Qu.cnt A e.del e.val:Nat)+1:Int) % 18446744073709551616=((Qu.cnt A e.del e.val+1:Nat):Int):=by omega
 refine⟨?_,?_⟩
 ·unfold eS;simp only[h.next]
  show qc (E1b E nx e r) e.del e.val ((Qu.dq (E1b E nx e r) e.del e.val+1) % 18446744073709551616)=_
  rw[hc,c];unfold qc;rw[if_neg (by omega)]
 ·show put (E1b E nx e r) (Ky.mk 17 e.del e.val) (nv ((Qu.dq (E1b E nx e r) e.del e.val+1) % 18446744073709551616))=_
  rw[hc,c]
theorem Qs.begin(h:Qs E nx A)(u:nx+1 < 18446744073709551616)(hA:A.length<=100000)(n:e.id=nx)(t:e.k=12\/e.k=13)(l:Uq e.del)(m:Uq e.val)(z:Uq e.due)(H:vP e r):Qs (eS E e.k r e.del e.val e.due) (nx+1) (A ++ [e]):=by
 rw[(nq h u hA t l m z).1]
 have hi:Uq nx:=⟨h.nx0,by omega⟩
 have L:∀ {k a b:Int},Ok k a b->Kv.look (put (E1b E nx e r) (Ky.mk 17 e.del e.val) (nv ((Qu.cnt A e.del e.val + 1:Nat):Int))) (Ky.mk k a b)=if 17=k/\e.del=a/\e.val=b then some (nv ((Qu.cnt A e.del e.val + 1:Nat):Int)) else if 15=k/\e.val=a/\nx=b then some (nv e.k) else if 14=k/\e.due=a/\nx=b then some (nv e.k) else if e.k=k/\nx=a/\0=b then some r else if 2=k/\0=a/\0=b then some (pv (ey (chn E)) (nx + 1)) else Kv.look E (Ky.mk k a b):=fun {k a b} C=>by
  rw[lkp (rV h.dA _ _ _) (l4 l m) C,sH h.dA t hi m z C,h.next,show (nx+1) % 18446744073709551616=nx+1 by have:=h.nx0;omega]
 have o:chn (put (E1b E nx e r) (Ky.mk 17 e.del e.val) (nv ((Qu.cnt A e.del e.val+1:Nat):Int)))=pv (ey (chn E)) (nx+1):=by
  unfold chn got;rw[L ok2,if_neg (by simp),if_neg (by simp),if_neg (by simp),if_neg (by omega),if_pos (by simp)];rfl
 obtain⟨p1,G⟩:=rA h.hgt (y:=nx+1) ⟨by have:=h.nx0;omega,u⟩
 have old:∀ f∈A,f.id≠nx:=fun f hf e=>by have:=(h.jo f hf).2.1;omega
 refine⟨(rV h.dA _ _ _).put _ _,?_,by rw[o];exact G,by rw[o,p1];exact h.hgt,by have:=h.nx0;omega,?_,?_,?_,?_,?_,?_,?_⟩
 ·exact eE (eE (eE (eE (eE h.keys ok2) (okr t hi)) (sV z hi)) (uP m hi)) (l4 l m)
 ·rw[List.pairwise_append];exact⟨h.ids,List.pairwise_singleton _ _,fun a w b hb=>by rw[List.mem_singleton.1 hb,n];exact old a w⟩
 ·intro f hf;rcases List.mem_append.1 hf with hf | hf
  ·obtain⟨g1,B,D⟩:=h.jo f hf;exact⟨g1,⟨B.1,by omega⟩,D⟩
  ·rw[List.mem_singleton.1 hf];exact⟨t,⟨by omega,by omega⟩,l,m,z⟩
 ·intro f hf;rcases List.mem_append.1 hf with hf | hf
  ·obtain⟨g1,B,D⟩:=h.jo f hf;have:=old f hf;rw[L (okr g1 ⟨B.1,by omega⟩),if_neg (by omega),if_neg (by omega),if_neg (by omega),if_neg (by omega),if_neg (by omega)];exact h.AS f hf
  ·rw[List.mem_singleton.1 hf,n,L (okr t hi),if_neg (by omega),if_neg (by omega),if_neg (by omega),if_pos ⟨rfl,rfl,rfl⟩];exact⟨r,rfl,H⟩
 ·intro k i s g p
  have F:¬ (e.id=i/\e.k=k):=p e (by simp);rw[L (okr s g),if_neg (by omega),if_neg (by omega),if_neg (by omega),if_neg (by omega),if_neg (by omega)];exact h.oW k i s g (fun f hf=>p f (by simp[hf]))
 ·intro d i j g v;rw[L (sV j g),if_neg (by simp),if_neg (by simp)];by_cases c:e.due=d/\nx=i
  ·rw[if_pos ⟨rfl,c⟩];constructor
   ·intro q;exact⟨e,by simp,by omega,c.1,by injection q with q;exact q.symm⟩
   ·rintro⟨f,hf,f1,f2,f3⟩;rcases List.mem_append.1 hf with hf | hf
    ·exact absurd (f1.trans c.2.symm) (old f hf)
    ·rw[f3,List.mem_singleton.1 hf]
  ·rw[if_neg (fun x=>c x.2),if_neg (by omega),if_neg (by simp),h.dues d i j g v];constructor
   ·rintro⟨f,hf,q⟩;exact⟨f,by simp[hf],q⟩
   ·rintro⟨f,hf,q⟩;rcases List.mem_append.1 hf with hf | hf
    ·exact⟨f,hf,q⟩
    ·rw[List.mem_singleton.1 hf] at q;exact absurd ⟨q.2.1,by omega⟩ c
 ·intro d i j g v;rw[L (uP j g),if_neg (by simp)];by_cases c:e.val=d/\nx=i
  ·rw[if_pos ⟨rfl,c⟩];constructor
   ·intro q;exact⟨e,by simp,by omega,c.1,by injection q with q;exact q.symm⟩
   ·rintro⟨f,hf,f1,f2,f3⟩;rcases List.mem_append.1 hf with hf | hf
    ·exact absurd (f1.trans c.2.symm) (old f hf)
    ·rw[f3,List.mem_singleton.1 hf]
  ·rw[if_neg (fun x=>c x.2),if_neg (by simp),if_neg (by omega),if_neg (by simp),h.srcs d i j g v];constructor
   ·rintro⟨f,hf,q⟩;exact⟨f,by simp[hf],q⟩
   ·rintro⟨f,hf,q⟩;rcases List.mem_append.1 hf with hf | hf
    ·exact⟨f,hf,q⟩
    ·rw[List.mem_singleton.1 hf] at q;exact absurd ⟨q.2.1,by omega⟩ c
 ·intro a b w hb;rw[L (l4 w hb),qq];by_cases c:e.del=a/\e.val=b
  ·rw[if_pos ⟨rfl,c⟩,if_pos c,if_neg (by omega),c.1,c.2]
  ·rw[if_neg (fun x=>c x.2),if_neg (by simp),if_neg (by simp),if_neg (by omega),if_neg (by simp),if_neg c,Nat.add_zero];exact h.ET a b w hb
end
end
end Qu
end
section
namespace Qu
open Go.RowKit Go.Lib Pg Lim Gl Kv Bk Pw
set_option linter.unusedVariables false
set_option linter.unusedSimpArgs false
section
variable {E:ay} {nx:Int} {A:List Qe}
section
variable {e:Qe}{k id y:Int}{r:List Int}
def cX(A:List Qe)(i:Int):List Qe:=A.filter (fun x=>decide (x.id≠i))
theorem di{i:Int}{f:Qe}:f∈cX A i<->f∈A/\f.id≠i:=by unfold cX;rw[List.mem_filter];simp
theorem mO(x:Qe)(A:List Qe)(a b:Int):Qu.cnt (x :: A) a b=Qu.cnt A a b + if x.del=a/\x.val=b then 1 else 0:=by
 unfold Qu.cnt;rw[List.countP_cons];by_cases h:x.del=a/\x.val=b<;>simp[h]
theorem wq(c:A.Pairwise (fun x y=>x.id≠y.id))(he:e∈A)(a b:Int):Qu.cnt A a b=Qu.cnt (cX A e.id) a b + if e.del=a/\e.val=b then 1 else 0:=by
 induction A with
 | nil=>cases he
 | cons x A ih =>
  rw[List.pairwise_cons] at c;rcases List.mem_cons.1 he with rfl | he
  ·have d:cX (e :: A) e.id=A:=by
    unfold cX;rw[List.filter_cons_of_neg (by simp),List.filter_eq_self.2];intro y hy;have:=c.1 y hy;simp;exact fun q=>this q.symm
   rw[d,mO]
  ·have d:cX (x :: A) e.id=x :: cX A e.id:=by
    unfold cX;rw[List.filter_cons_of_pos (by simp;exact c.1 e he)]
   rw[d,mO,mO,ih c.2 he];omega
def E1d(E:ay)(e:Qe):ay:=Kv.rem (Kv.rem (Kv.rem E (Ky.mk e.k e.id 0)) (Ky.mk 14 e.due e.id)) (Ky.mk 15 e.val e.id)
theorem jS(h:cI E)(e:Qe):cI (E1d E e):=((h.rem _).rem _).rem _
theorem mu(h:cI E)(f:e.k=12\/e.k=13)(hi:Uq e.id)(g:Uq e.val)(d:Uq e.due){a b:Int}(c:Ok k a b):Kv.look (E1d E e) (Ky.mk k a b)=if 15=k/\e.val=a/\e.id=b then none else if 14=k/\e.due=a/\e.id=b then none else if e.k=k/\e.id=a/\0=b then none else Kv.look E (Ky.mk k a b):=by
 unfold E1d;rw[lkr ((h.rem _).rem _) (uP g hi) c,lkr (h.rem _) (sV d hi) c,lkr h (okr f hi) c]
def qg(E:ay)(a b:Int)(c:Nat):ay:=if c=0 then Kv.rem E (Ky.mk 17 a b) else put E (Ky.mk 17 a b) (nv (c:Nat))
theorem Qs.uid(h:Qs E nx A)(hnx:nx<=18446744073709551616)(he:e∈A):Uq e.id:=by have:=(h.jo e he).2.1;exact⟨this.1,by omega⟩
theorem Qs.cpos(h:Qs E nx A)(he:e∈A):Qu.cnt A e.del e.val=Qu.cnt (cX A e.id) e.del e.val+1:=by rw[wq h.ids he,if_pos ⟨rfl,rfl⟩]
theorem zf(h:Qs E nx A)(b:nx<=18446744073709551616)(hA:A.length<=100000)(he:e∈A) :
  sO E e.k e.id e.del e.val e.due=qg (E1d E e) e.del e.val (Qu.cnt (cX A e.id) e.del e.val)/\lx E e.k e.id e.del e.val e.due=qg (E1d E e) e.del e.val (Qu.cnt (cX A e.id) e.del e.val):=by
 obtain⟨g1,j,f,a,g⟩:=h.jo e he;have hi:=h.uid b he
 have hc:Qu.dq (E1d E e) e.del e.val=(Qu.cnt A e.del e.val:Nat):=by
  rw[<- h.dq f a (by omega)];unfold Qu.dq got;rw[mu h.dA g1 hi a g (l4 f a),if_neg (by simp),if_neg (by simp),if_neg (by omega)]
 have l:=kB A e.del e.val;have i:=h.cpos he
 have d:((Qu.cnt A e.del e.val:Nat) - 1:Int) % 18446744073709551616=((Qu.cnt (cX A e.id) e.del e.val:Nat):Int):=by omega
 refine⟨?_,?_⟩
 ·show qc (E1d E e) e.del e.val ((Qu.dq (E1d E e) e.del e.val - 1) % 18446744073709551616)=_
  rw[hc,d];unfold qc qg;by_cases c:Qu.cnt (cX A e.id) e.del e.val=0
  ·rw[if_pos (by omega),if_pos c]
  ·rw[if_neg (by omega),if_neg c]
 ·show (if Qu.dq (E1d E e) e.del e.val<=1 then Kv.rem (E1d E e) (Ky.mk 17 e.del e.val) else put (E1d E e) (Ky.mk 17 e.del e.val) (nv ((Qu.dq (E1d E e) e.del e.val - 1) % 18446744073709551616)))=_
  rw[hc,d];unfold qg;by_cases c:Qu.cnt (cX A e.id) e.del e.val=0
  ·rw[if_pos (by omega),if_pos c]
  ·rw[if_neg (by omega),if_neg c]
theorem Qs.end(h:Qs E nx A)(l:nx<=18446744073709551616)(hA:A.length<=100000)(he:e∈A):Qs (sO E e.k e.id e.del e.val e.due) nx (cX A e.id):=by
 rw[(zf h l hA he).1];obtain⟨g1,D,t,n,w⟩:=h.jo e he;have hi:=h.uid l he
 have L:∀ {k a b:Int},Ok k a b->Kv.look (qg (E1d E e) e.del e.val (Qu.cnt (cX A e.id) e.del e.val)) (Ky.mk k a b)=if 17=k/\e.del=a/\e.val=b then (if Qu.cnt (cX A e.id) e.del e.val=0 then none else some (nv (Qu.cnt (cX A e.id) e.del e.val:Nat))) else if 15=k/\e.val=a/\e.id=b then none else if 14=k/\e.due=a/\e.id=b then none else if e.k=k/\e.id=a/\0=b then none else Kv.look E (Ky.mk k a b):=fun {k a b} r=>by
  unfold qg;by_cases c:Qu.cnt (cX A e.id) e.del e.val=0
  ·rw[if_pos c,if_pos c,lkr (jS h.dA _) (l4 t n) r,mu h.dA g1 hi n w r]
  ·rw[if_neg c,if_neg c,lkp (jS h.dA _) (l4 t n) r,mu h.dA g1 hi n w r]
 have o:chn (qg (E1d E e) e.del e.val (Qu.cnt (cX A e.id) e.del e.val))=chn E:=by
  unfold chn got;rw[L ok2,if_neg (by simp),if_neg (by simp),if_neg (by simp),if_neg (by omega)]
 refine⟨?_,?_,by rw[o];exact h.next,by rw[o];exact h.hgt,h.nx0,List.Pairwise.filter _ h.ids,fun f hf=>h.jo f (di.1 hf).1,?_,?_,?_,?_,?_⟩
 ·unfold qg;split
  ·exact(jS h.dA _).rem _
  ·exact(jS h.dA _).put _ _
 ·unfold qg;split
  ·exact eT (eT (eT (eT h.keys)))
  ·exact eE (eT (eT (eT h.keys))) (l4 t n)
 ·intro f hf;obtain⟨m,z⟩:=di.1 hf;obtain⟨y,C,B⟩:=h.jo f m;rw[L (okr y (h.uid l m)),if_neg (by omega),if_neg (by omega),if_neg (by omega),if_neg (by omega)];exact h.AS f m
 ·intro k i p g s;rw[L (okr p g),if_neg (by omega),if_neg (by omega),if_neg (by omega)];split
  ·rfl
  ·rename_i c;refine h.oW k i p g (fun f hf q=>?_);by_cases d:f.id=e.id
   ·have:=h.one hf he d;subst this;omega
   ·exact s f (di.2 ⟨hf,d⟩) q
 ·intro d i j g v;rw[L (sV j g),if_neg (by simp),if_neg (by simp)];by_cases c:e.due=d/\e.id=i
  ·rw[if_pos ⟨rfl,c⟩];constructor
   ·intro q;cases q
   ·rintro⟨f,hf,f1,f2,f3⟩;exact absurd (f1.trans c.2.symm) (di.1 hf).2
  ·rw[if_neg (fun x=>c x.2),if_neg (by omega),h.dues d i j g v];constructor
   ·rintro⟨f,hf,q⟩;refine⟨f,di.2 ⟨hf,fun x=>c ?_⟩,q⟩;have:=h.one hf he x;subst this;exact⟨q.2.1,q.1⟩
   ·rintro⟨f,hf,q⟩;exact⟨f,(di.1 hf).1,q⟩
 ·intro d i j g v;rw[L (uP j g),if_neg (by simp)];by_cases c:e.val=d/\e.id=i
  ·rw[if_pos ⟨rfl,c⟩];constructor
   ·intro q;cases q
   ·rintro⟨f,hf,f1,f2,f3⟩;exact absurd (f1.trans c.2.symm) (di.1 hf).2
  ·rw[if_neg (fun x=>c x.2),if_neg (by simp),if_neg (by omega),h.srcs d i j g v];constructor
   ·rintro⟨f,hf,q⟩;refine⟨f,di.2 ⟨hf,fun x=>c ?_⟩,q⟩;have:=h.one hf he x;subst this;exact⟨q.2.1,q.1⟩
   ·rintro⟨f,hf,q⟩;exact⟨f,(di.1 hf).1,q⟩
 ·intro a b u hb;rw[L (l4 u hb)];by_cases c:e.del=a/\e.val=b
  ·rw[if_pos ⟨rfl,c⟩,c.1,c.2]
  ·rw[if_neg (fun x=>c x.2),if_neg (by simp),if_neg (by simp),if_neg (by omega),h.ET a b u hb,wq h.ids he a b,if_neg c,Nat.add_zero]
theorem Qs.drop(h:Qs E nx A)(j:nx<=18446744073709551616)(hA:A.length<=100000)(he:e∈A):dI E e.id e.k=sO E e.k e.id e.del e.val e.due/\cQ E e.id e.k=dI E e.id e.k/\cO E e.id e.k=true:=by
 obtain⟨l,b,t1,t2⟩:=h.AS e he
 have c:got E (Ky.mk e.k e.id 0)=l:=by unfold got;rw[b];rfl
 have a:=(zf h j hA he)
 rcases(h.jo e he).1 with d | d
 ·rw[d] at b c a ⊢;obtain⟨f,i,g⟩:=t1 d
  have e1:dI E e.id 12=sO E 12 e.id e.del e.val e.due:=by
   unfold dI mZ;rw[if_pos rfl,b,if_pos (show (some l).isSome=true from rfl),c,f,i,g]
  refine⟨e1,?_,?_⟩
  ·unfold cQ;rw[e1,if_pos rfl,b,if_pos (show (some l).isSome=true from rfl),c,f,i,g,a.1,a.2]
  ·unfold cO;rw[if_pos rfl,b];rfl
 ·rw[d] at b c a ⊢;obtain⟨f,i,g⟩:=t2 d
  have e1:dI E e.id 13=sO E 13 e.id e.del e.val e.due:=by
   unfold dI l8;rw[if_neg (by decide),if_pos rfl,b,if_pos (show (some l).isSome=true from rfl),c,f,i,g]
  refine⟨e1,?_,?_⟩
  ·unfold cQ;rw[e1,if_neg (by decide),if_pos rfl,b,if_pos (show (some l).isSome=true from rfl),c,f,i,g,a.1,a.2]
  ·unfold cO;rw[if_neg (by decide),if_pos rfl,b];rfl
theorem Qs.dropN(h:Qs E nx A)(b:Uq id)(a:∀ e∈A,¬ (e.id=id/\e.k=k)):dI E id k=E/\cQ E id k=E/\cO E id k=false:=by
 by_cases c:k=12
 ·subst c;have d:=h.oW 12 id (.inl rfl) b a;unfold dI cQ cO mZ;simp only[d];simp
 ·by_cases c2:k=13
  ·subst c2;have d:=h.oW 13 id (.inr rfl) b a;unfold dI cQ cO l8;simp only[d];simp
  ·unfold dI cQ cO;rw[if_neg c,if_neg c2,if_neg c,if_neg c2,if_neg c,if_neg c2];exact⟨rfl,rfl,rfl⟩
theorem Qs.DU(h:Qs E nx A)(a:nx<=18446744073709551616)(hA:A.length<=100000)(k:Int)(f:Uq id):cQ E id k=dI E id k/\∃ A',A'.length<=A.length/\Qs (dI E id k) nx A':=by
 by_cases c:∃ e∈A,e.id=id/\e.k=k
 ·obtain⟨e,he,rfl,rfl⟩:=c;obtain⟨b,d,_⟩:=h.drop a hA he;refine⟨d,cX A e.id,List.length_filter_le _ _,?_⟩;rw[b];exact h.end a hA he
 ·obtain⟨b,d,_⟩:=h.dropN f (k:=k) (fun e he q=>c ⟨e,he,q⟩);exact⟨d.trans b.symm,A,Nat.le_refl _,by rw[b];exact h⟩
theorem Qs.Fg(h:Qs E nx A)(u:k=12\/k=13)(n:Uq id)(s:nx<=18446744073709551616)(w:(Kv.look E (Ky.mk k id 0)).isSome=true)(B:∀ e∈A,vP e (got E (Ky.mk k id 0))->e.id=id->e.k=k->vP e r):Qs (put E (Ky.mk k id 0) r) nx A:=by
 have L:∀ {k' a b:Int},Ok k' a b->Kv.look (put E (Ky.mk k id 0) r) (Ky.mk k' a b)=if k=k'/\id=a/\0=b then some r else Kv.look E (Ky.mk k' a b):=fun y=>lkp h.dA (okr u n) y
 have o:chn (put E (Ky.mk k id 0) r)=chn E:=by
  unfold chn got;rw[L ok2,if_neg (by omega)]
 refine⟨h.dA.put _ _,eE h.keys (okr u n),by rw[o];exact h.next,by rw[o];exact h.hgt,h.nx0,h.ids,h.jo,?_,?_,?_,?_,?_⟩
 ·intro f hf;rw[L (okr (h.jo f hf).1 (h.uid s hf))];by_cases c:k=f.k/\id=f.id/\(0:Int)=0
  ·rw[if_pos c];obtain⟨l,z,x⟩:=h.AS f hf;refine⟨r,rfl,B f hf ?_ c.2.1.symm c.1.symm⟩;unfold got;rw[c.1,c.2.1,z];exact x
  ·rw[if_neg c];exact h.AS f hf
 ·intro q i m g p;rw[L (okr m g)];by_cases c:k=q/\id=i/\(0:Int)=0
  ·rw[c.1,c.2.1,h.oW q i m g p] at w
   cases w
  ·rw[if_neg c];exact h.oW q i m g p
 ·intro d i j g v;rw[L (sV j g),if_neg (by omega)];exact h.dues d i j g v
 ·intro d i j g v;rw[L (uP j g),if_neg (by omega)];exact h.srcs d i j g v
 ·intro a b t hb;rw[L (l4 t hb),if_neg (by omega)];exact h.ET a b t hb
theorem Qs.less(h:Qs E nx A)(d:Uq id)(hy:Uq y)(b:nx<=18446744073709551616)(a:Oct (got E (Ky.mk 12 id 0))):Qs (gV E id y) nx A:=by
 unfold gV;split
 ·rename_i c;refine h.Fg (.inl rfl) d b c (fun e he t _ i=>⟨fun _=>?_,fun k=>by omega⟩);obtain⟨j,f,_,g,_⟩:=vL (eM a 0) (eM a 1) (eM a 2) (eM a 3) (eM a 4) hy;obtain⟨t0,t1,t3⟩:=t.1 i;exact⟨j.trans t0,f.trans t1,g.trans t3⟩
 ·exact h
theorem Qs.few(h:Qs E nx A)(d:Uq id)(hy:0<=y)(b:nx<=18446744073709551616)(a:Oct (got E (Ky.mk 13 id 0))):Qs (nA E id y) nx A:=by
 unfold nA;split
 ·rename_i c;refine h.Fg (.inr rfl) d b c (fun e he t _ i=>⟨fun k=>by omega,fun _=>?_⟩);obtain⟨⟨j,f,_⟩,⟨_,g,_⟩,_⟩:=wg (dY a 0) (dY a 1) (dY a 2) (dY a 3) (dY a 4) (dY a 5) hy;obtain⟨t0,t1,t3⟩:=t.2 i;exact⟨j.trans t0,f.trans t1,g.trans t3⟩
 ·exact h
end
end
end Qu
end
section
namespace Qu
open Go.RowKit Go.Lib Pg Lim Gl Kv Bk Pw
set_option linter.unusedVariables false
set_option linter.unusedSimpArgs false
section
variable {k a b h:Int}{t:List Int}
def p14(h:Int):List Int:=Ky.mkb (Ky.frm 14) (Ky.tn 14 h)
def p15(v:Int):List Int:=Ky.mkb (Ky.frm 15) (Ky.tn 15 v)
theorem nB(h:Int):p14 h=113 :: Ky.be 8 h:=by
 show [113] ++ (if (8:Int) < 17 then Ky.be 8 h else []) ++ (if (0:Int)=0 then [] else [0])=_
 simp
theorem qL(h:Int):p15 h=101 :: Ky.be 8 h:=by
 show [101] ++ (if (8:Int) < 17 then Ky.be 8 h else []) ++ (if (0:Int)=0 then [] else [0])=_
 simp
theorem iy(a b:Int):Ky.mk 14 a b=113 :: (Ky.be 8 a ++ Ky.be 8 b):=by rw[Ky.mk_eq (k:=14) (n:=17) (m0:=113) (m1:=0) rfl];rfl
theorem qi(a b:Int):Ky.mk 15 a b=101 :: (Ky.be 8 a ++ Ky.be 8 b):=by rw[Ky.mk_eq (k:=15) (n:=17) (m0:=101) (m1:=0) rfl];rfl
theorem yK(h:Ok k a b)(c:k≠14):∃ m t,Ky.mk k a b=m :: t/\(m=99\/m=117\/m=114\/m=101\/m=107)/\(m=101->k=15):=by
 rcases h.1 with⟨rfl,rfl,rfl⟩ | ⟨rfl,rfl⟩ | ⟨rfl,rfl⟩ | rfl | rfl | rfl
 ·exact⟨99,_,by rw[Ky.mk_eq (k:=2) (n:=1) (m0:=99) (m1:=0) rfl];rfl,by decide,by decide⟩
 ·exact⟨117,_,by rw[Ky.mk_eq (k:=12) (n:=9) (m0:=117) (m1:=0) rfl];rfl,by decide,by decide⟩
 ·exact⟨114,_,by rw[Ky.mk_eq (k:=13) (n:=9) (m0:=114) (m1:=0) rfl];rfl,by decide,by decide⟩
 ·exact absurd rfl c
 ·exact⟨101,_,qi a b,by decide,by decide⟩
 ·exact⟨107,_,by rw[Ky.mk_eq (k:=17) (n:=17) (m0:=107) (m1:=0) rfl];rfl,by decide,by decide⟩
theorem Cy(h:Uq a):0<=a/\a < 256 ^ 8:=by rw[show (256:Int) ^ 8=18446744073709551616 by decide];exact h
theorem Ax(c:Uq a)(b:Uq h):Ky.be 8 h <+: Ky.be 8 a ++ t<->a=h:=by
 constructor
 ·rintro⟨s,e⟩;have:=(List.append_inj e (by rw[Ky.aD,Ky.aD])).1;exact((Ky.be8_eq (Cy b) (Cy c)).1 this).symm
 ·rintro rfl;exact List.prefix_append _ _
theorem yF(k a b:Int)(h:Ok k a b):Oct (Ky.mk k a b):=by
 rcases h.1 with⟨rfl,rfl,rfl⟩ | ⟨rfl,rfl⟩ | ⟨rfl,rfl⟩ | rfl | rfl | rfl
 ·rw[Ky.mk_eq (k:=2) (n:=1) (m0:=99) (m1:=0) rfl];intro x hx;simp at hx;omega
 ·rw[Ky.mk_eq (k:=12) (n:=9) (m0:=117) (m1:=0) rfl];intro x hx;simp at hx;rcases hx with rfl | hx
  ·decide
  ·exact Ky.dE _ _ x hx
 ·rw[Ky.mk_eq (k:=13) (n:=9) (m0:=114) (m1:=0) rfl];intro x hx;simp at hx;rcases hx with rfl | hx
  ·decide
  ·exact Ky.dE _ _ x hx
 ·rw[iy];intro x hx;simp at hx;rcases hx with rfl | hx | hx
  ·decide
  ·exact Ky.dE _ _ x hx
  ·exact Ky.dE _ _ x hx
 ·rw[qi];intro x hx;simp at hx;rcases hx with rfl | hx | hx
  ·decide
  ·exact Ky.dE _ _ x hx
  ·exact Ky.dE _ _ x hx
 ·rw[Ky.mk_eq (k:=17) (n:=17) (m0:=107) (m1:=0) rfl];intro x hx;simp at hx;rcases hx with rfl | hx | hx
  ·decide
  ·exact Ky.dE _ _ x hx
  ·exact Ky.dE _ _ x hx
theorem wy(h:Int):Kv.nxt (p14 h)≠[]:=by
 intro e;have:=Kv.vS e 113 (by rw[nB];simp);omega
theorem EV(j:Uq h)(d:Ok k a b)(v:List Int):iL [113] (Kv.nxt (p14 h)) (Ky.mk k a b,v)=decide (k=14/\a<=h):=by
 unfold iL;simp only[];by_cases c:k=14
 ·subst c
  have n:¬ Lt (Ky.mk 14 a b) [113]:=by
   rw[iy,Kv.cn];rintro(q | ⟨_,q⟩)
   ·omega
   ·exact Ky.not_lt_nil q
  have g:p14 h <+: Ky.mk 14 a b<->a=h:=by rw[nB,iy,List.cons_prefix_cons];simp only[true_and];exact Ax d.2.1 j
  have i:Lt (Ky.mk 14 a b) (p14 h)<->a < h:=by
   have e:Ky.be 8 h=Ky.be 8 h ++ []:=by simp
   rw[nB,iy,Kv.cn,e,Ky.iX (by rw[Ky.aD,Ky.aD]),Ky.be8_lt (Cy d.2.1) (Cy j)];constructor
   ·rintro(q | ⟨_,q | ⟨_,q⟩⟩)
    ·omega
    ·exact q
    ·exact absurd q Ky.not_lt_nil
   ·intro q;exact .inr ⟨rfl,.inl q⟩
  have l:Lt (Ky.mk 14 a b) (Kv.nxt (p14 h))<->a<=h:=by
   constructor
   ·intro q;by_cases c:a<=h
    ·exact c
    ·exact absurd q (Kv.jd (yF _ _ _ d) (fun x=>by have:=g.1 x;omega) (fun x=>by have:=i.1 x;omega))
   ·intro q;rcases Int.lt_or_eq_of_le q with q | q
    ·exact(i.2 q).trans (Ky.lt_nxt (wy h))
    ·exact Kv.nJ (wy h) (g.2 q)
  simp[n,wy,l]
 ·obtain⟨m,t,e,hm,_⟩:=yK d c
  have o:decide (k=14/\a<=h)=false:=decide_eq_false (fun x=>c x.1);rw[o];by_cases f:m < 113
  ·have:Lt (Ky.mk k a b) [113]:=by rw[e,Kv.cn]; exact .inl f
   simp[this]
  ·have:¬ Lt (Ky.mk k a b) (Kv.nxt (p14 h)):=Kv.jd (yF _ _ _ d) (by rw[e,nB,List.cons_prefix_cons]; rintro⟨q,_⟩; omega) (by
    rw[e,nB,Kv.cn]
    rintro(q | ⟨q,_⟩)<;>omega)
   simp[this,wy]
theorem key15(g:Uq h)(f:Ok k a b):decide (p15 h <+: Ky.mk k a b)=decide (k=15/\a=h):=by
 by_cases c:k=15
 ·subst c;have:p15 h <+: Ky.mk 15 a b<->a=h:=by rw[qL,qi,List.cons_prefix_cons]; simp only[true_and]; exact Ax f.2.1 g
  simp[this]
 ·have i:decide (k=15/\a=h)=false:=decide_eq_false (fun x=>c x.1);rw[i];refine decide_eq_false (fun x=>?_);by_cases c2:k=14
  ·subst c2;rw[qL,iy,List.cons_prefix_cons] at x;omega
  ·obtain⟨m,t,e,hm,d⟩:=yK f c2;rw[e,qL,List.cons_prefix_cons] at x;exact c (d x.1.symm)
theorem Ah(d:Ok k a b):decide ([113] <+: Ky.mk k a b)=decide (k=14):=by
 by_cases c:k=14
 ·subst c;rw[iy];simp
 ·obtain⟨m,t,e,hm,_⟩:=yK d c;rw[e,decide_eq_false c];refine decide_eq_false (fun x=>?_);rw[List.cons_prefix_cons] at x;omega
theorem sM(ha:Uq a)(hb:Uq b):Ky.frm (14:Nat)=Ky.fIn (Ky.mk 14 a b)/\Ky.rdA 14 (Ky.mk 14 a b)=a/\Ky.rdB (Ky.mk 14 a b)=b:=Ky.jI (k:=14) (by decide) (by decide) ha hb (kZ a b)
theorem back15(ha:Uq a)(hb:Uq b):Ky.frm (15:Nat)=Ky.fIn (Ky.mk 15 a b)/\Ky.rdA 15 (Ky.mk 15 a b)=a/\Ky.rdB (Ky.mk 15 a b)=b:=Ky.jI (k:=15) (by decide) (by decide) ha hb (ly a b)
end
section
variable {E:ay} {nx:Int} {A:List Qe}
section
variable {t:Int}
abbrev Kys(E:ay):Prop:=∀ x∈E,∃ k a b,Ok k a b/\x.1=Ky.mk k a b
theorem Kys.k14(h:Kys E)(f:Uq t):∀ x∈E,iL [113] (Kv.nxt (p14 t)) x=true->Ky.frm (14:Nat)=Ky.fIn x.1:=fun x hx d=>by
 obtain⟨k,a,b,c,e⟩:=h x hx
 have e2:x=(Ky.mk k a b,x.2):=by rw[<- e]
 rw[e2,EV f c] at d;obtain⟨rfl,_⟩:=of_decide_eq_true d;rw[e];exact(sM c.2.1 c.2.2).1
theorem Kys.k15(h:Kys E)(g:Uq t):∀ x∈E,p15 t <+: x.1->Ky.frm (15:Nat)=Ky.fIn x.1:=fun x hx f=>by
 obtain⟨k,a,b,c,e⟩:=h x hx;rw[e] at f;have d:=(key15 g c).symm.trans (decide_eq_true f);obtain⟨rfl,_⟩:=of_decide_eq_true d;rw[e];exact(back15 c.2.1 c.2.2).1
theorem Kys.k113(h:Kys E):∀ x∈E,[113] <+: x.1->Ky.frm (14:Nat)=Ky.fIn x.1:=fun x hx f=>by
 obtain⟨k,a,b,c,e⟩:=h x hx;rw[e] at f;have d:=(Ah c).symm.trans (decide_eq_true f);obtain rfl:=of_decide_eq_true d;rw[e];exact(sM c.2.1 c.2.2).1
theorem Kys.upto(h:Kys E)(f:Uq t):(E.filter (fun x=>decide ([113] <+: x.1))).filter (fun x=>decide (Ky.rdA 14 x.1<=t))=E.filter (iL [113] (Kv.nxt (p14 t))):=by
 rw[List.filter_filter];refine List.filter_congr (fun x hx=>?_);obtain⟨k,a,b,d,e⟩:=h x hx
 have e2:x=(Ky.mk k a b,x.2):=by rw[<- e]
 rw[e2,EV f d,Ah d];by_cases c:k=14
 ·subst c;simp[(sM d.2.1 d.2.2).2.1]
 ·simp[c]
end
end
end Qu
end
end Go.Proofs.YtidnifmehnjipaaGreat
