/- Several texts, joined: QuS, QuT, QuU. -/
import Derived.Test.YtidnifmehnjipaaGreatJar
import Derived.Test.YtidnifmehnjipaaGreatJav
import Derived.Test.YtidnifmehnjipaaGreatJas
import Derived.Test.YtidnifmehnjipaaGreatJah
set_option maxRecDepth 100000
set_option maxHeartbeats 8000000
namespace Go.Proofs.YtidnifmehnjipaaGreat
section
namespace Qu
open Go.RowKit Go.Lib Pg Lim Gl Kv Bk Pw
set_option linter.unusedVariables false
set_option linter.unusedSimpArgs false
section
variable {i k a b:Int}
abbrev Uq(x:Int):Prop:=0<=x/\x < 18446744073709551616
def Ok(k a b:Int):Prop:=((k=2/\a=0/\b=0)\/(k=12/\b=0)\/(k=13/\b=0)\/k=14\/k=15\/k=17)/\Uq a/\Uq b
theorem ok2:Ok 2 0 0:=⟨.inl ⟨rfl,rfl,rfl⟩,by decide,by decide⟩
theorem ok12(h:Uq i):Ok 12 i 0:=⟨.inr (.inl ⟨rfl,rfl⟩),h,by decide⟩
theorem ok13(h:Uq i):Ok 13 i 0:=⟨.inr (.inr (.inl ⟨rfl,rfl⟩)),h,by decide⟩
theorem okr(hk:k=12\/k=13)(h:Uq i):Ok k i 0:=by
 rcases hk with rfl | rfl
 ·exact ok12 h
 ·exact ok13 h
theorem sM(h:Uq a)(h2:Uq b):Ok 14 a b:=⟨by simp,h,h2⟩
theorem uG(h:Uq a)(h2:Uq b):Ok 15 a b:=⟨by simp,h,h2⟩
theorem lU(h:Uq a)(h2:Uq b):Ok 17 a b:=⟨by simp,h,h2⟩
theorem Ok.nat(h:Ok k a b):∃ n:Nat,k=(n:Int)/\n < 18/\0 < n/\Ky.mkE k a b=false:=by
 rcases h.1 with⟨rfl,rfl,rfl⟩ | ⟨rfl,rfl⟩ | ⟨rfl,rfl⟩ | rfl | rfl | rfl
 ·exact⟨2,rfl,by decide,by decide,nP⟩
 ·exact⟨12,rfl,by decide,by decide,gN a⟩
 ·exact⟨13,rfl,by decide,by decide,gL a⟩
 ·exact⟨14,rfl,by decide,by decide,ju a b⟩
 ·exact⟨15,rfl,by decide,by decide,jL a b⟩
 ·exact⟨17,rfl,by decide,by decide,gV a b⟩
theorem yK{k' a' b':Int}(h:Ok k a b)(c:Ok k' a' b')(e:Ky.mk k a b=Ky.mk k' a' b'):k=k'/\a=a'/\b=b':=by
 obtain⟨n,rfl,f,g,d⟩:=h.nat;obtain⟨m,rfl,m1,m2,m3⟩:=c.nat;obtain⟨e1,e2,e3⟩:=Ky.mk_inj f g m1 m2 h.2.1 h.2.2 c.2.1 c.2.2 d m3 e;exact⟨by rw[e1],e2,e3⟩
end
section
variable {E:ax} {k a b k' a' b':Int} {v:List Int}
theorem lkp (d:cM E) (h:Ok k a b) (c:Ok k' a' b'):Kv.look (put E (Ky.mk k a b) v) (Ky.mk k' a' b')=if k=k'/\a=a'/\b=b' then some v else Kv.look E (Ky.mk k' a' b'):=by
 rw[Bw d];by_cases e:k=k'/\a=a'/\b=b'
 ·rw[if_pos e,if_pos (by rw[e.1,e.2.1,e.2.2])]
 ·rw[if_neg e,if_neg (fun x=>e (yK h c x))]
theorem lkr (d:cM E) (h:Ok k a b) (c:Ok k' a' b'):Kv.look (Kv.rem E (Ky.mk k a b)) (Ky.mk k' a' b')=if k=k'/\a=a'/\b=b' then none else Kv.look E (Ky.mk k' a' b'):=by
 rw[yQ d];by_cases e:k=k'/\a=a'/\b=b'
 ·rw[if_pos e,if_pos (by rw[e.1,e.2.1,e.2.2])]
 ·rw[if_neg e,if_neg (fun x=>e (yK h c x))]
end
section
variable {x x0 x1 x2 x3 x4 x5:Int}
theorem Dv(hx:Uq x):bj (nv x)=x:=by
 obtain⟨c,a,b⟩:=Rc.iZ (fun o=>([x]:List Int).getD o 0) [(0,0)] [] (fun _=>0) (by decide) (List.forall_mem_cons.2 ⟨hx,fun _ h=>by cases h⟩);rw[List.append_nil] at a
 have e:Rc.bL (nv x)=(0,[],c):=a;unfold bj;rw[e];exact b.1 (0,0) (by simp)
theorem vC(r0:Uq x0)(r1:Uq x1)(g:Uq x2)(c:Uq x3)(d:Uq x4)(f:Uq x5):uX (uv x0 x1 x2 x3 x4 x5) 0=x0/\uX (uv x0 x1 x2 x3 x4 x5) 1=x1/\uX (uv x0 x1 x2 x3 x4 x5) 2=x2/\uX (uv x0 x1 x2 x3 x4 x5) 3=x3/\uX (uv x0 x1 x2 x3 x4 x5) 4=x4/\uX (uv x0 x1 x2 x3 x4 x5) 5=x5:=by
 obtain⟨i,b,a⟩:=Rc.iZ (fun o=>([x0,x1,x2,x3,x4,x5]:List Int).getD o 0) [(0,0),(0,1),(0,2),(0,3),(0,4),(0,5)] [] (fun _=>0) (by decide) (List.forall_mem_cons.2 ⟨r0,List.forall_mem_cons.2 ⟨r1,List.forall_mem_cons.2 ⟨g,List.forall_mem_cons.2 ⟨c,List.forall_mem_cons.2 ⟨d,List.forall_mem_cons.2 ⟨f,fun _ h=>by cases h⟩⟩⟩⟩⟩⟩);rw[List.append_nil] at b
 have e:Rc.aH (uv x0 x1 x2 x3 x4 x5)=(0,[],i):=b;unfold uX;rw[e];exact⟨a.1 (0,0) (by simp),a.1 (0,1) (by simp),a.1 (0,2) (by simp),a.1 (0,3) (by simp),a.1 (0,4) (by simp),a.1 (0,5) (by simp)⟩
theorem vU{a:Int}(r0:Uq x0)(r1:Uq x1)(j:Uq x2)(d:Uq x3)(g:Uq x4)(i:Uq x5)(f:0<=a):(mX (mv x0 x1 x2 x3 x4 x5 a) 0=x0/\mX (mv x0 x1 x2 x3 x4 x5 a) 1=x1/\mX (mv x0 x1 x2 x3 x4 x5 a) 2=x2)/\(mX (mv x0 x1 x2 x3 x4 x5 a) 3=x3/\mX (mv x0 x1 x2 x3 x4 x5 a) 4=x4/\mX (mv x0 x1 x2 x3 x4 x5 a) 5=x5)/\mX (mv x0 x1 x2 x3 x4 x5 a) 6=Rc.fit a:=by
 obtain⟨k,c,b⟩:=Rc.iZ (fun o=>([x0,x1,x2,x3,x4,x5,a]:List Int).getD o 0) [(0,0),(0,1),(0,2),(0,3),(0,4),(0,5),(2,6)] [] (fun _=>0) (by decide) (List.forall_mem_cons.2 ⟨r0,List.forall_mem_cons.2 ⟨r1,List.forall_mem_cons.2 ⟨j,List.forall_mem_cons.2 ⟨d,List.forall_mem_cons.2 ⟨g,List.forall_mem_cons.2 ⟨i,List.forall_mem_cons.2 ⟨f,fun _ h=>by cases h⟩⟩⟩⟩⟩⟩⟩);rw[List.append_nil] at c
 have e:Rc.bz (mv x0 x1 x2 x3 x4 x5 a)=(0,[],k):=c;unfold mX;rw[e];exact⟨⟨b.1 (0,0) (by simp),b.1 (0,1) (by simp),b.1 (0,2) (by simp)⟩,⟨b.1 (0,3) (by simp),b.1 (0,4) (by simp),b.1 (0,5) (by simp)⟩,b.1 (2,6) (by simp)⟩
theorem rm{y:Int}(hx:Uq x)(hy:Uq y):ey (pv x y)=x/\aI (pv x y)=y:=Bk.Cy hx hy
structure Qe where
 id:Int
 k:Int
 del:Int
 val:Int
 due:Int
def cnt(A:List Qe)(a b:Int):Nat:=A.countP (fun e=>decide (e.del=a/\e.val=b))
def vG(e:Qe)(l:List Int):Prop:=(e.k=12->uX l 0=e.del/\uX l 1=e.val/\uX l 3=e.due)/\(e.k=13->mX l 0=e.del/\mX l 1=e.val/\mX l 4=e.due)
structure Qs(E:ax)(nx:Int)(A:List Qe):Prop where
 dz:cM E
 keys:∀ x∈E,∃ k a b,Ok k a b/\x.1=Ky.mk k a b
 next:aI (chn E)=nx
 hgt:Uq (ey (chn E))
 nx0:0<=nx
 ids:A.Pairwise (fun x y=>x.id≠y.id)
 jh:∀ e∈A,(e.k=12\/e.k=13)/\(0<=e.id/\e.id < nx)/\Uq e.del/\Uq e.val/\Uq e.due
 AD:∀ e∈A,∃ l,Kv.look E (Ky.mk e.k e.id 0)=some l/\vG e l
 oQ:∀ k i,(k=12\/k=13)->Uq i->(∀ e∈A,¬ (e.id=i/\e.k=k))->Kv.look E (Ky.mk k i 0)=none
 dues:∀ d i,Uq d->Uq i->∀ v,Kv.look E (Ky.mk 14 d i)=some v<->∃ e∈A,e.id=i/\e.due=d/\v=nv e.k
 srcs:∀ d i,Uq d->Uq i->∀ v,Kv.look E (Ky.mk 15 d i)=some v<->∃ e∈A,e.id=i/\e.val=d/\v=nv e.k
 ED:∀ a b,Uq a->Uq b->Kv.look E (Ky.mk 17 a b)=if cnt A a b=0 then none else some (nv (cnt A a b:Nat))
end
section
variable {E:ax} {nx:Int} {A:List Qe}
section
variable {a b:Int}{e:Qe}{k v r:List Int}
theorem kt(A:List Qe)(a b:Int):Qu.cnt A a b<=A.length:=List.countP_le_length
theorem Qs.dr(h:Qs E nx A)(c:Uq a)(hb:Uq b)(hA:A.length<=1000000):Qu.dr E a b=(Qu.cnt A a b:Nat):=by
 have d:=kt A a b;unfold Qu.dr got;rw[h.ED a b c hb];split
 ·rename_i e;rw[e];exact rz
 ·show bj (nv _)=_
  exact Dv ⟨by omega,by omega⟩
theorem Qs.one(h:Qs E nx A){f:Qe}(he:e∈A)(hf:f∈A)(c:e.id=f.id):e=f:=by
 have:=h.ids;clear h
 induction A with
 | nil=>cases he
 | cons x A ih =>
  rw[List.pairwise_cons] at this;rcases List.mem_cons.1 he with b | b<;>rcases List.mem_cons.1 hf with a | a
  ·rw[b,a]
  ·exact absurd (by rw[<- b];exact c) (this.1 f a)
  ·exact absurd (by rw[<- a];exact c.symm) (this.1 e b)
  ·exact ih b a this.2
theorem sr{x:KV}(h:x∈put E k v):x∈E\/x.1=k:=(Pw.CK h).imp id (fun e=>by rw[e])
theorem eF{k:Int}(h:∀ x∈E,∃ k a b,Ok k a b/\x.1=Ky.mk k a b)(ho:Ok k a b):∀ x∈put E (Ky.mk k a b) v,∃ k a b,Ok k a b/\x.1=Ky.mk k a b:=fun x hx=>(sr hx).elim (h x) (fun e=>⟨k,a,b,ho,e⟩)
theorem eV(h:∀ x∈E,∃ k a b,Ok k a b/\x.1=Ky.mk k a b):∀ x∈Kv.rem E k,∃ k a b,Ok k a b/\x.1=Ky.mk k a b:=fun x hx=>h x (List.mem_filter.1 hx).1
theorem qj(A:List Qe)(e:Qe)(a b:Int):Qu.cnt (A ++ [e]) a b=Qu.cnt A a b + if e.del=a/\e.val=b then 1 else 0:=by
 unfold Qu.cnt;rw[List.countP_append];by_cases h:e.del=a/\e.val=b
 ·rw[if_pos h];simp[h]
 ·rw[if_neg h];simp[h]
def E1b(E:ax)(i:Int)(e:Qe)(r:List Int):ax:=put (put (put (dD E) (Ky.mk e.k i 0) r) (Ky.mk 14 e.due i) (nv e.k)) (Ky.mk 15 e.val i) (nv e.k)
theorem lS(h:cM E):cM (dD E):=h.put _ _
theorem rN(h:cM E)(i:Int)(e:Qe)(r:List Int):cM (E1b E i e r):=(((lS h).put _ _).put _ _).put _ _
theorem sw(h:cM E){i:Int}(f:e.k=12\/e.k=13)(hi:Uq i)(g:Uq e.val)(d:Uq e.due){k:Int}(c:Ok k a b):Kv.look (E1b E i e r) (Ky.mk k a b)=if 15=k/\e.val=a/\i=b then some (nv e.k) else if 14=k/\e.due=a/\i=b then some (nv e.k) else if e.k=k/\i=a/\0=b then some r else if 2=k/\0=a/\0=b then some (pv (ey (chn E)) ((aI (chn E) + 1) % 18446744073709551616)) else Kv.look E (Ky.mk k a b):=by
 unfold E1b;rw[lkp (((lS h).put _ _).put _ _) (uG g hi) c,lkp ((lS h).put _ _) (sM d hi) c,lkp (lS h) (okr f hi) c];unfold dD;rw[lkp h ok2 c]
theorem mY(h:Qs E nx A)(g:nx+1 < 18446744073709551616)(hA:A.length<=100000)(f:e.k=12\/e.k=13)(a:Uq e.del)(b:Uq e.val)(d:Uq e.due) :
  eU E e.k r e.del e.val e.due=put (E1b E nx e r) (Ky.mk 17 e.del e.val) (nv ((Qu.cnt A e.del e.val+1:Nat):Int))/\o7 (put (dD E) (Ky.mk e.k nx 0) r) e.k nx e.del e.val e.due=put (E1b E nx e r) (Ky.mk 17 e.del e.val) (nv ((Qu.cnt A e.del e.val+1:Nat):Int)):=by
 have hi:Uq nx:=⟨h.nx0,by omega⟩
 have hc:Qu.dr (E1b E nx e r) e.del e.val=(Qu.cnt A e.del e.val:Nat):=by
  rw[<- h.dr a b (by omega)];unfold Qu.dr got;rw[sw h.dz f hi b d (lU a b),if_neg (by simp),if_neg (by simp),if_neg (by omega),if_neg (by simp)]
 have i:=kt A e.del e.val
 have c:((Qu.cnt A e.del e.val:Nat)+1:Int) % 18446744073709551616=((Qu.cnt A e.del e.val+1:Nat):Int):=by omega
 refine⟨?_,?_⟩
 ·unfold eU;simp only[h.next]
  show pW (E1b E nx e r) e.del e.val ((Qu.dr (E1b E nx e r) e.del e.val+1) % 18446744073709551616)=_
  rw[hc,c];unfold pW;rw[if_neg (by omega)]
 ·show put (E1b E nx e r) (Ky.mk 17 e.del e.val) (nv ((Qu.dr (E1b E nx e r) e.del e.val+1) % 18446744073709551616))=_
  rw[hc,c]
theorem Qs.begin(h:Qs E nx A)(u:nx+1 < 18446744073709551616)(hA:A.length<=100000)(n:e.id=nx)(t:e.k=12\/e.k=13)(l:Uq e.del)(m:Uq e.val)(z:Uq e.due)(H:vG e r):Qs (eU E e.k r e.del e.val e.due) (nx+1) (A ++ [e]):=by
 rw[(mY h u hA t l m z).1]
 have hi:Uq nx:=⟨h.nx0,by omega⟩
 have L:∀ {k a b:Int},Ok k a b->Kv.look (put (E1b E nx e r) (Ky.mk 17 e.del e.val) (nv ((Qu.cnt A e.del e.val + 1:Nat):Int))) (Ky.mk k a b)=if 17=k/\e.del=a/\e.val=b then some (nv ((Qu.cnt A e.del e.val + 1:Nat):Int)) else if 15=k/\e.val=a/\nx=b then some (nv e.k) else if 14=k/\e.due=a/\nx=b then some (nv e.k) else if e.k=k/\nx=a/\0=b then some r else if 2=k/\0=a/\0=b then some (pv (ey (chn E)) (nx + 1)) else Kv.look E (Ky.mk k a b):=fun {k a b} C=>by
  rw[lkp (rN h.dz _ _ _) (lU l m) C,sw h.dz t hi m z C,h.next,show (nx+1) % 18446744073709551616=nx+1 by have:=h.nx0;omega]
 have o:chn (put (E1b E nx e r) (Ky.mk 17 e.del e.val) (nv ((Qu.cnt A e.del e.val+1:Nat):Int)))=pv (ey (chn E)) (nx+1):=by
  unfold chn got;rw[L ok2,if_neg (by simp),if_neg (by simp),if_neg (by simp),if_neg (by omega),if_pos (by simp)];rfl
 obtain⟨p1,G⟩:=rm h.hgt (y:=nx+1) ⟨by have:=h.nx0;omega,u⟩
 have old:∀ f∈A,f.id≠nx:=fun f hf e=>by have:=(h.jh f hf).2.1;omega
 refine⟨(rN h.dz _ _ _).put _ _,?_,by rw[o];exact G,by rw[o,p1];exact h.hgt,by have:=h.nx0;omega,?_,?_,?_,?_,?_,?_,?_⟩
 ·exact eF (eF (eF (eF (eF h.keys ok2) (okr t hi)) (sM z hi)) (uG m hi)) (lU l m)
 ·rw[List.pairwise_append];exact⟨h.ids,List.pairwise_singleton _ _,fun a w b hb=>by rw[List.mem_singleton.1 hb,n];exact old a w⟩
 ·intro f hf;rcases List.mem_append.1 hf with hf | hf
  ·obtain⟨g1,B,D⟩:=h.jh f hf;exact⟨g1,⟨B.1,by omega⟩,D⟩
  ·rw[List.mem_singleton.1 hf];exact⟨t,⟨by omega,by omega⟩,l,m,z⟩
 ·intro f hf;rcases List.mem_append.1 hf with hf | hf
  ·obtain⟨g1,B,D⟩:=h.jh f hf;have:=old f hf;rw[L (okr g1 ⟨B.1,by omega⟩),if_neg (by omega),if_neg (by omega),if_neg (by omega),if_neg (by omega),if_neg (by omega)];exact h.AD f hf
  ·rw[List.mem_singleton.1 hf,n,L (okr t hi),if_neg (by omega),if_neg (by omega),if_neg (by omega),if_pos ⟨rfl,rfl,rfl⟩];exact⟨r,rfl,H⟩
 ·intro k i s g p
  have F:¬ (e.id=i/\e.k=k):=p e (by simp);rw[L (okr s g),if_neg (by omega),if_neg (by omega),if_neg (by omega),if_neg (by omega),if_neg (by omega)];exact h.oQ k i s g (fun f hf=>p f (by simp[hf]))
 ·intro d i j g v;rw[L (sM j g),if_neg (by simp),if_neg (by simp)];by_cases c:e.due=d/\nx=i
  ·rw[if_pos ⟨rfl,c⟩];constructor
   ·intro q;exact⟨e,by simp,by omega,c.1,by injection q with q;exact q.symm⟩
   ·rintro⟨f,hf,f1,f2,f3⟩;rcases List.mem_append.1 hf with hf | hf
    ·exact absurd (f1.trans c.2.symm) (old f hf)
    ·rw[f3,List.mem_singleton.1 hf]
  ·rw[if_neg (fun x=>c x.2),if_neg (by omega),if_neg (by simp),h.dues d i j g v];constructor
   ·rintro⟨f,hf,q⟩;exact⟨f,by simp[hf],q⟩
   ·rintro⟨f,hf,q⟩;rcases List.mem_append.1 hf with hf | hf
    ·exact⟨f,hf,q⟩
    ·rw[List.mem_singleton.1 hf] at q;exact absurd ⟨q.2.1,by omega⟩ c
 ·intro d i j g v;rw[L (uG j g),if_neg (by simp)];by_cases c:e.val=d/\nx=i
  ·rw[if_pos ⟨rfl,c⟩];constructor
   ·intro q;exact⟨e,by simp,by omega,c.1,by injection q with q;exact q.symm⟩
   ·rintro⟨f,hf,f1,f2,f3⟩;rcases List.mem_append.1 hf with hf | hf
    ·exact absurd (f1.trans c.2.symm) (old f hf)
    ·rw[f3,List.mem_singleton.1 hf]
  ·rw[if_neg (fun x=>c x.2),if_neg (by simp),if_neg (by omega),if_neg (by simp),h.srcs d i j g v];constructor
   ·rintro⟨f,hf,q⟩;exact⟨f,by simp[hf],q⟩
   ·rintro⟨f,hf,q⟩;rcases List.mem_append.1 hf with hf | hf
    ·exact⟨f,hf,q⟩
    ·rw[List.mem_singleton.1 hf] at q;exact absurd ⟨q.2.1,by omega⟩ c
 ·intro a b w hb;rw[L (lU w hb),qj];by_cases c:e.del=a/\e.val=b
  ·rw[if_pos ⟨rfl,c⟩,if_pos c,if_neg (by omega),c.1,c.2]
  ·rw[if_neg (fun x=>c x.2),if_neg (by simp),if_neg (by simp),if_neg (by omega),if_neg (by simp),if_neg c,Nat.add_zero];exact h.ED a b w hb
end
end
end Qu
end
section
namespace Qu
open Go.RowKit Go.Lib Pg Lim Gl Kv Bk Pw
set_option linter.unusedVariables false
set_option linter.unusedSimpArgs false
section
variable {E:ax} {nx:Int} {A:List Qe}
section
variable {e:Qe}{k id y:Int}{r:List Int}
def cX(A:List Qe)(i:Int):List Qe:=A.filter (fun x=>decide (x.id≠i))
theorem dk{i:Int}{f:Qe}:f∈cX A i<->f∈A/\f.id≠i:=by unfold cX;rw[List.mem_filter];simp
theorem mG(x:Qe)(A:List Qe)(a b:Int):Qu.cnt (x :: A) a b=Qu.cnt A a b + if x.del=a/\x.val=b then 1 else 0:=by
 unfold Qu.cnt;rw[List.countP_cons];by_cases h:x.del=a/\x.val=b<;>simp[h]
theorem vY(c:A.Pairwise (fun x y=>x.id≠y.id))(he:e∈A)(a b:Int):Qu.cnt A a b=Qu.cnt (cX A e.id) a b + if e.del=a/\e.val=b then 1 else 0:=by
 induction A with
 | nil=>cases he
 | cons x A ih =>
  rw[List.pairwise_cons] at c;rcases List.mem_cons.1 he with rfl | he
  ·have d:cX (e :: A) e.id=A:=by
    unfold cX;rw[List.filter_cons_of_neg (by simp),List.filter_eq_self.2];intro y hy;have:=c.1 y hy;simp;exact fun q=>this q.symm
   rw[d,mG]
  ·have d:cX (x :: A) e.id=x :: cX A e.id:=by
    unfold cX;rw[List.filter_cons_of_pos (by simp;exact c.1 e he)]
   rw[d,mG,mG,ih c.2 he];omega
def E1d(E:ax)(e:Qe):ax:=Kv.rem (Kv.rem (Kv.rem E (Ky.mk e.k e.id 0)) (Ky.mk 14 e.due e.id)) (Ky.mk 15 e.val e.id)
theorem jO(h:cM E)(e:Qe):cM (E1d E e):=((h.rem _).rem _).rem _
theorem mi(h:cM E)(f:e.k=12\/e.k=13)(hi:Uq e.id)(g:Uq e.val)(d:Uq e.due){a b:Int}(c:Ok k a b):Kv.look (E1d E e) (Ky.mk k a b)=if 15=k/\e.val=a/\e.id=b then none else if 14=k/\e.due=a/\e.id=b then none else if e.k=k/\e.id=a/\0=b then none else Kv.look E (Ky.mk k a b):=by
 unfold E1d;rw[lkr ((h.rem _).rem _) (uG g hi) c,lkr (h.rem _) (sM d hi) c,lkr h (okr f hi) c]
def p7(E:ax)(a b:Int)(c:Nat):ax:=if c=0 then Kv.rem E (Ky.mk 17 a b) else put E (Ky.mk 17 a b) (nv (c:Nat))
theorem Qs.uid(h:Qs E nx A)(hnx:nx<=18446744073709551616)(he:e∈A):Uq e.id:=by have:=(h.jh e he).2.1;exact⟨this.1,by omega⟩
theorem Qs.cpos(h:Qs E nx A)(he:e∈A):Qu.cnt A e.del e.val=Qu.cnt (cX A e.id) e.del e.val+1:=by rw[vY h.ids he,if_pos ⟨rfl,rfl⟩]
theorem yS(h:Qs E nx A)(b:nx<=18446744073709551616)(hA:A.length<=100000)(he:e∈A) :
  sG E e.k e.id e.del e.val e.due=p7 (E1d E e) e.del e.val (Qu.cnt (cX A e.id) e.del e.val)/\Bc E e.k e.id e.del e.val e.due=p7 (E1d E e) e.del e.val (Qu.cnt (cX A e.id) e.del e.val):=by
 obtain⟨g1,j,f,a,g⟩:=h.jh e he;have hi:=h.uid b he
 have hc:Qu.dr (E1d E e) e.del e.val=(Qu.cnt A e.del e.val:Nat):=by
  rw[<- h.dr f a (by omega)];unfold Qu.dr got;rw[mi h.dz g1 hi a g (lU f a),if_neg (by simp),if_neg (by simp),if_neg (by omega)]
 have l:=kt A e.del e.val;have i:=h.cpos he
 have d:((Qu.cnt A e.del e.val:Nat) - 1:Int) % 18446744073709551616=((Qu.cnt (cX A e.id) e.del e.val:Nat):Int):=by omega
 refine⟨?_,?_⟩
 ·show pW (E1d E e) e.del e.val ((Qu.dr (E1d E e) e.del e.val - 1) % 18446744073709551616)=_
  rw[hc,d];unfold pW p7;by_cases c:Qu.cnt (cX A e.id) e.del e.val=0
  ·rw[if_pos (by omega),if_pos c]
  ·rw[if_neg (by omega),if_neg c]
 ·show (if Qu.dr (E1d E e) e.del e.val<=1 then Kv.rem (E1d E e) (Ky.mk 17 e.del e.val) else put (E1d E e) (Ky.mk 17 e.del e.val) (nv ((Qu.dr (E1d E e) e.del e.val - 1) % 18446744073709551616)))=_
  rw[hc,d];unfold p7;by_cases c:Qu.cnt (cX A e.id) e.del e.val=0
  ·rw[if_pos (by omega),if_pos c]
  ·rw[if_neg (by omega),if_neg c]
theorem Qs.end(h:Qs E nx A)(l:nx<=18446744073709551616)(hA:A.length<=100000)(he:e∈A):Qs (sG E e.k e.id e.del e.val e.due) nx (cX A e.id):=by
 rw[(yS h l hA he).1];obtain⟨g1,D,t,n,w⟩:=h.jh e he;have hi:=h.uid l he
 have L:∀ {k a b:Int},Ok k a b->Kv.look (p7 (E1d E e) e.del e.val (Qu.cnt (cX A e.id) e.del e.val)) (Ky.mk k a b)=if 17=k/\e.del=a/\e.val=b then (if Qu.cnt (cX A e.id) e.del e.val=0 then none else some (nv (Qu.cnt (cX A e.id) e.del e.val:Nat))) else if 15=k/\e.val=a/\e.id=b then none else if 14=k/\e.due=a/\e.id=b then none else if e.k=k/\e.id=a/\0=b then none else Kv.look E (Ky.mk k a b):=fun {k a b} r=>by
  unfold p7;by_cases c:Qu.cnt (cX A e.id) e.del e.val=0
  ·rw[if_pos c,if_pos c,lkr (jO h.dz _) (lU t n) r,mi h.dz g1 hi n w r]
  ·rw[if_neg c,if_neg c,lkp (jO h.dz _) (lU t n) r,mi h.dz g1 hi n w r]
 have o:chn (p7 (E1d E e) e.del e.val (Qu.cnt (cX A e.id) e.del e.val))=chn E:=by
  unfold chn got;rw[L ok2,if_neg (by simp),if_neg (by simp),if_neg (by simp),if_neg (by omega)]
 refine⟨?_,?_,by rw[o];exact h.next,by rw[o];exact h.hgt,h.nx0,List.Pairwise.filter _ h.ids,fun f hf=>h.jh f (dk.1 hf).1,?_,?_,?_,?_,?_⟩
 ·unfold p7;split
  ·exact(jO h.dz _).rem _
  ·exact(jO h.dz _).put _ _
 ·unfold p7;split
  ·exact eV (eV (eV (eV h.keys)))
  ·exact eF (eV (eV (eV h.keys))) (lU t n)
 ·intro f hf;obtain⟨m,z⟩:=dk.1 hf;obtain⟨y,C,B⟩:=h.jh f m;rw[L (okr y (h.uid l m)),if_neg (by omega),if_neg (by omega),if_neg (by omega),if_neg (by omega)];exact h.AD f m
 ·intro k i p g s;rw[L (okr p g),if_neg (by omega),if_neg (by omega),if_neg (by omega)];split
  ·rfl
  ·rename_i c;refine h.oQ k i p g (fun f hf q=>?_);by_cases d:f.id=e.id
   ·have:=h.one hf he d;subst this;omega
   ·exact s f (dk.2 ⟨hf,d⟩) q
 ·intro d i j g v;rw[L (sM j g),if_neg (by simp),if_neg (by simp)];by_cases c:e.due=d/\e.id=i
  ·rw[if_pos ⟨rfl,c⟩];constructor
   ·intro q;cases q
   ·rintro⟨f,hf,f1,f2,f3⟩;exact absurd (f1.trans c.2.symm) (dk.1 hf).2
  ·rw[if_neg (fun x=>c x.2),if_neg (by omega),h.dues d i j g v];constructor
   ·rintro⟨f,hf,q⟩;refine⟨f,dk.2 ⟨hf,fun x=>c ?_⟩,q⟩;have:=h.one hf he x;subst this;exact⟨q.2.1,q.1⟩
   ·rintro⟨f,hf,q⟩;exact⟨f,(dk.1 hf).1,q⟩
 ·intro d i j g v;rw[L (uG j g),if_neg (by simp)];by_cases c:e.val=d/\e.id=i
  ·rw[if_pos ⟨rfl,c⟩];constructor
   ·intro q;cases q
   ·rintro⟨f,hf,f1,f2,f3⟩;exact absurd (f1.trans c.2.symm) (dk.1 hf).2
  ·rw[if_neg (fun x=>c x.2),if_neg (by simp),if_neg (by omega),h.srcs d i j g v];constructor
   ·rintro⟨f,hf,q⟩;refine⟨f,dk.2 ⟨hf,fun x=>c ?_⟩,q⟩;have:=h.one hf he x;subst this;exact⟨q.2.1,q.1⟩
   ·rintro⟨f,hf,q⟩;exact⟨f,(dk.1 hf).1,q⟩
 ·intro a b u hb;rw[L (lU u hb)];by_cases c:e.del=a/\e.val=b
  ·rw[if_pos ⟨rfl,c⟩,c.1,c.2]
  ·rw[if_neg (fun x=>c x.2),if_neg (by simp),if_neg (by simp),if_neg (by omega),h.ED a b u hb,vY h.ids he a b,if_neg c,Nat.add_zero]
theorem Qs.drop(h:Qs E nx A)(j:nx<=18446744073709551616)(hA:A.length<=100000)(he:e∈A):dI E e.id e.k=sG E e.k e.id e.del e.val e.due/\cL E e.id e.k=dI E e.id e.k/\cB E e.id e.k=true:=by
 obtain⟨l,b,t1,t2⟩:=h.AD e he
 have c:got E (Ky.mk e.k e.id 0)=l:=by unfold got;rw[b];rfl
 have a:=(yS h j hA he)
 rcases(h.jh e he).1 with d | d
 ·rw[d] at b c a ⊢;obtain⟨f,i,g⟩:=t1 d
  have e1:dI E e.id 12=sG E 12 e.id e.del e.val e.due:=by
   unfold dI mR;rw[if_pos rfl,b,if_pos (show (some l).isSome=true from rfl),c,f,i,g]
  refine⟨e1,?_,?_⟩
  ·unfold cL;rw[e1,if_pos rfl,b,if_pos (show (some l).isSome=true from rfl),c,f,i,g,a.1,a.2]
  ·unfold cB;rw[if_pos rfl,b];rfl
 ·rw[d] at b c a ⊢;obtain⟨f,i,g⟩:=t2 d
  have e1:dI E e.id 13=sG E 13 e.id e.del e.val e.due:=by
   unfold dI lX;rw[if_neg (by decide),if_pos rfl,b,if_pos (show (some l).isSome=true from rfl),c,f,i,g]
  refine⟨e1,?_,?_⟩
  ·unfold cL;rw[e1,if_neg (by decide),if_pos rfl,b,if_pos (show (some l).isSome=true from rfl),c,f,i,g,a.1,a.2]
  ·unfold cB;rw[if_neg (by decide),if_pos rfl,b];rfl
theorem Qs.dropN(h:Qs E nx A)(b:Uq id)(a:∀ e∈A,¬ (e.id=id/\e.k=k)):dI E id k=E/\cL E id k=E/\cB E id k=false:=by
 by_cases c:k=12
 ·subst c;have d:=h.oQ 12 id (.inl rfl) b a;unfold dI cL cB mR;simp only[d];simp
 ·by_cases c2:k=13
  ·subst c2;have d:=h.oQ 13 id (.inr rfl) b a;unfold dI cL cB lX;simp only[d];simp
  ·unfold dI cL cB;rw[if_neg c,if_neg c2,if_neg c,if_neg c2,if_neg c,if_neg c2];exact⟨rfl,rfl,rfl⟩
theorem Qs.DI(h:Qs E nx A)(a:nx<=18446744073709551616)(hA:A.length<=100000)(k:Int)(f:Uq id):cL E id k=dI E id k/\∃ A',A'.length<=A.length/\Qs (dI E id k) nx A':=by
 by_cases c:∃ e∈A,e.id=id/\e.k=k
 ·obtain⟨e,he,rfl,rfl⟩:=c;obtain⟨b,d,_⟩:=h.drop a hA he;refine⟨d,cX A e.id,List.length_filter_le _ _,?_⟩;rw[b];exact h.end a hA he
 ·obtain⟨b,d,_⟩:=h.dropN f (k:=k) (fun e he q=>c ⟨e,he,q⟩);exact⟨d.trans b.symm,A,Nat.le_refl _,by rw[b];exact h⟩
theorem Qs.EX(h:Qs E nx A)(u:k=12\/k=13)(n:Uq id)(s:nx<=18446744073709551616)(w:(Kv.look E (Ky.mk k id 0)).isSome=true)(B:∀ e∈A,vG e (got E (Ky.mk k id 0))->e.id=id->e.k=k->vG e r):Qs (put E (Ky.mk k id 0) r) nx A:=by
 have L:∀ {k' a b:Int},Ok k' a b->Kv.look (put E (Ky.mk k id 0) r) (Ky.mk k' a b)=if k=k'/\id=a/\0=b then some r else Kv.look E (Ky.mk k' a b):=fun y=>lkp h.dz (okr u n) y
 have o:chn (put E (Ky.mk k id 0) r)=chn E:=by
  unfold chn got;rw[L ok2,if_neg (by omega)]
 refine⟨h.dz.put _ _,eF h.keys (okr u n),by rw[o];exact h.next,by rw[o];exact h.hgt,h.nx0,h.ids,h.jh,?_,?_,?_,?_,?_⟩
 ·intro f hf;rw[L (okr (h.jh f hf).1 (h.uid s hf))];by_cases c:k=f.k/\id=f.id/\(0:Int)=0
  ·rw[if_pos c];obtain⟨l,z,x⟩:=h.AD f hf;refine⟨r,rfl,B f hf ?_ c.2.1.symm c.1.symm⟩;unfold got;rw[c.1,c.2.1,z];exact x
  ·rw[if_neg c];exact h.AD f hf
 ·intro q i m g p;rw[L (okr m g)];by_cases c:k=q/\id=i/\(0:Int)=0
  ·rw[c.1,c.2.1,h.oQ q i m g p] at w
   cases w
  ·rw[if_neg c];exact h.oQ q i m g p
 ·intro d i j g v;rw[L (sM j g),if_neg (by omega)];exact h.dues d i j g v
 ·intro d i j g v;rw[L (uG j g),if_neg (by omega)];exact h.srcs d i j g v
 ·intro a b t hb;rw[L (lU t hb),if_neg (by omega)];exact h.ED a b t hb
theorem Qs.less(h:Qs E nx A)(d:Uq id)(hy:Uq y)(b:nx<=18446744073709551616)(a:Oct (got E (Ky.mk 12 id 0))):Qs (gR E id y) nx A:=by
 unfold gR;split
 ·rename_i c;refine h.EX (.inl rfl) d b c (fun e he t _ i=>⟨fun _=>?_,fun k=>by omega⟩);obtain⟨j,f,_,g,_⟩:=vC (eN a 0) (eN a 1) (eN a 2) (eN a 3) (eN a 4) hy;obtain⟨t0,t1,t3⟩:=t.1 i;exact⟨j.trans t0,f.trans t1,g.trans t3⟩
 ·exact h
theorem Qs.few(h:Qs E nx A)(d:Uq id)(hy:0<=y)(b:nx<=18446744073709551616)(a:Oct (got E (Ky.mk 13 id 0))):Qs (ni E id y) nx A:=by
 unfold ni;split
 ·rename_i c;refine h.EX (.inr rfl) d b c (fun e he t _ i=>⟨fun k=>by omega,fun _=>?_⟩);obtain⟨⟨j,f,_⟩,⟨_,g,_⟩,_⟩:=vU (dY a 0) (dY a 1) (dY a 2) (dY a 3) (dY a 4) (dY a 5) hy;obtain⟨t0,t1,t3⟩:=t.2 i;exact⟨j.trans t0,f.trans t1,g.trans t3⟩
 ·exact h
end
end
end Qu
end
section
namespace Qu
open Go.RowKit Go.Lib Pg Lim Gl Kv Bk Pw
set_option linter.unusedVariables false
set_option linter.unusedSimpArgs false
section
variable {k a b h:Int}{t:List Int}
def p14(h:Int):List Int:=Ky.mkb (Ky.frm 14) (Ky.tn 14 h)
def p15(v:Int):List Int:=Ky.mkb (Ky.frm 15) (Ky.tn 15 v)
theorem np(h:Int):p14 h=113 :: Ky.be 8 h:=by
 show [113] ++ (if (8:Int) < 17 then Ky.be 8 h else []) ++ (if (0:Int)=0 then [] else [0])=_
 simp
theorem qE(h:Int):p15 h=101 :: Ky.be 8 h:=by
 show [101] ++ (if (8:Int) < 17 then Ky.be 8 h else []) ++ (if (0:Int)=0 then [] else [0])=_
 simp
theorem iv(a b:Int):Ky.mk 14 a b=113 :: (Ky.be 8 a ++ Ky.be 8 b):=by rw[Ky.mk_eq (k:=14) (n:=17) (m0:=113) (m1:=0) rfl];rfl
theorem p9(a b:Int):Ky.mk 15 a b=101 :: (Ky.be 8 a ++ Ky.be 8 b):=by rw[Ky.mk_eq (k:=15) (n:=17) (m0:=101) (m1:=0) rfl];rfl
theorem yw(h:Ok k a b)(c:k≠14):∃ m t,Ky.mk k a b=m :: t/\(m=99\/m=117\/m=114\/m=101\/m=107)/\(m=101->k=15):=by
 rcases h.1 with⟨rfl,rfl,rfl⟩ | ⟨rfl,rfl⟩ | ⟨rfl,rfl⟩ | rfl | rfl | rfl
 ·exact⟨99,_,by rw[Ky.mk_eq (k:=2) (n:=1) (m0:=99) (m1:=0) rfl];rfl,by decide,by decide⟩
 ·exact⟨117,_,by rw[Ky.mk_eq (k:=12) (n:=9) (m0:=117) (m1:=0) rfl];rfl,by decide,by decide⟩
 ·exact⟨114,_,by rw[Ky.mk_eq (k:=13) (n:=9) (m0:=114) (m1:=0) rfl];rfl,by decide,by decide⟩
 ·exact absurd rfl c
 ·exact⟨101,_,p9 a b,by decide,by decide⟩
 ·exact⟨107,_,by rw[Ky.mk_eq (k:=17) (n:=17) (m0:=107) (m1:=0) rfl];rfl,by decide,by decide⟩
theorem Cm(h:Uq a):0<=a/\a < 256 ^ 8:=by rw[show (256:Int) ^ 8=18446744073709551616 by decide];exact h
theorem Ah(c:Uq a)(b:Uq h):Ky.be 8 h <+: Ky.be 8 a ++ t<->a=h:=by
 constructor
 ·rintro⟨s,e⟩;have:=(List.append_inj e (by rw[Ky.aD,Ky.aD])).1;exact((Ky.be8_eq (Cm b) (Cm c)).1 this).symm
 ·rintro rfl;exact List.prefix_append _ _
theorem yq(k a b:Int)(h:Ok k a b):Oct (Ky.mk k a b):=by
 rcases h.1 with⟨rfl,rfl,rfl⟩ | ⟨rfl,rfl⟩ | ⟨rfl,rfl⟩ | rfl | rfl | rfl
 ·rw[Ky.mk_eq (k:=2) (n:=1) (m0:=99) (m1:=0) rfl];intro x hx;simp at hx;omega
 ·rw[Ky.mk_eq (k:=12) (n:=9) (m0:=117) (m1:=0) rfl];intro x hx;simp at hx;rcases hx with rfl | hx
  ·decide
  ·exact Ky.dE _ _ x hx
 ·rw[Ky.mk_eq (k:=13) (n:=9) (m0:=114) (m1:=0) rfl];intro x hx;simp at hx;rcases hx with rfl | hx
  ·decide
  ·exact Ky.dE _ _ x hx
 ·rw[iv];intro x hx;simp at hx;rcases hx with rfl | hx | hx
  ·decide
  ·exact Ky.dE _ _ x hx
  ·exact Ky.dE _ _ x hx
 ·rw[p9];intro x hx;simp at hx;rcases hx with rfl | hx | hx
  ·decide
  ·exact Ky.dE _ _ x hx
  ·exact Ky.dE _ _ x hx
 ·rw[Ky.mk_eq (k:=17) (n:=17) (m0:=107) (m1:=0) rfl];intro x hx;simp at hx;rcases hx with rfl | hx | hx
  ·decide
  ·exact Ky.dE _ _ x hx
  ·exact Ky.dE _ _ x hx
theorem vZ(h:Int):Kv.nxt (p14 h)≠[]:=by
 intro e;have:=Kv.vJ e 113 (by rw[np];simp);omega
theorem EF(j:Uq h)(d:Ok k a b)(v:List Int):iG [113] (Kv.nxt (p14 h)) (Ky.mk k a b,v)=decide (k=14/\a<=h):=by
 unfold iG;simp only[];by_cases c:k=14
 ·subst c
  have n:¬ Lt (Ky.mk 14 a b) [113]:=by
   rw[iv,Kv.cp];rintro(q | ⟨_,q⟩)
   ·omega
   ·exact Ky.not_lt_nil q
  have g:p14 h <+: Ky.mk 14 a b<->a=h:=by rw[np,iv,List.cons_prefix_cons];simp only[true_and];exact Ah d.2.1 j
  have i:Lt (Ky.mk 14 a b) (p14 h)<->a < h:=by
   have e:Ky.be 8 h=Ky.be 8 h ++ []:=by simp
   rw[np,iv,Kv.cp,e,Ky.iR (by rw[Ky.aD,Ky.aD]),Ky.be8_lt (Cm d.2.1) (Cm j)];constructor
   ·rintro(q | ⟨_,q | ⟨_,q⟩⟩)
    ·omega
    ·exact q
    ·exact absurd q Ky.not_lt_nil
   ·intro q;exact .inr ⟨rfl,.inl q⟩
  have l:Lt (Ky.mk 14 a b) (Kv.nxt (p14 h))<->a<=h:=by
   constructor
   ·intro q;by_cases c:a<=h
    ·exact c
    ·exact absurd q (Kv.iW (yq _ _ _ d) (fun x=>by have:=g.1 x;omega) (fun x=>by have:=i.1 x;omega))
   ·intro q;rcases Int.lt_or_eq_of_le q with q | q
    ·exact(i.2 q).trans (Ky.lt_nxt (vZ h))
    ·exact Kv.nC (vZ h) (g.2 q)
  simp[n,vZ,l]
 ·obtain⟨m,t,e,hm,_⟩:=yw d c
  have o:decide (k=14/\a<=h)=false:=decide_eq_false (fun x=>c x.1);rw[o];by_cases f:m < 113
  ·have:Lt (Ky.mk k a b) [113]:=by rw[e,Kv.cp]; exact .inl f
   simp[this]
  ·have:¬ Lt (Ky.mk k a b) (Kv.nxt (p14 h)):=Kv.iW (yq _ _ _ d) (by rw[e,np,List.cons_prefix_cons]; rintro⟨q,_⟩; omega) (by
    rw[e,np,Kv.cp]
    rintro(q | ⟨q,_⟩)<;>omega)
   simp[this,vZ]
theorem key15(g:Uq h)(f:Ok k a b):decide (p15 h <+: Ky.mk k a b)=decide (k=15/\a=h):=by
 by_cases c:k=15
 ·subst c;have:p15 h <+: Ky.mk 15 a b<->a=h:=by rw[qE,p9,List.cons_prefix_cons]; simp only[true_and]; exact Ah f.2.1 g
  simp[this]
 ·have i:decide (k=15/\a=h)=false:=decide_eq_false (fun x=>c x.1);rw[i];refine decide_eq_false (fun x=>?_);by_cases c2:k=14
  ·subst c2;rw[qE,iv,List.cons_prefix_cons] at x;omega
  ·obtain⟨m,t,e,hm,d⟩:=yw f c2;rw[e,qE,List.cons_prefix_cons] at x;exact c (d x.1.symm)
theorem zU(d:Ok k a b):decide ([113] <+: Ky.mk k a b)=decide (k=14):=by
 by_cases c:k=14
 ·subst c;rw[iv];simp
 ·obtain⟨m,t,e,hm,_⟩:=yw d c;rw[e,decide_eq_false c];refine decide_eq_false (fun x=>?_);rw[List.cons_prefix_cons] at x;omega
theorem sE(ha:Uq a)(hb:Uq b):Ky.frm (14:Nat)=Ky.fIn (Ky.mk 14 a b)/\Ky.rdA 14 (Ky.mk 14 a b)=a/\Ky.rdB (Ky.mk 14 a b)=b:=Ky.jC (k:=14) (by decide) (by decide) ha hb (ju a b)
theorem back15(ha:Uq a)(hb:Uq b):Ky.frm (15:Nat)=Ky.fIn (Ky.mk 15 a b)/\Ky.rdA 15 (Ky.mk 15 a b)=a/\Ky.rdB (Ky.mk 15 a b)=b:=Ky.jC (k:=15) (by decide) (by decide) ha hb (jL a b)
end
section
variable {E:ax} {nx:Int} {A:List Qe}
section
variable {t:Int}
abbrev Kys(E:ax):Prop:=∀ x∈E,∃ k a b,Ok k a b/\x.1=Ky.mk k a b
theorem Kys.k14(h:Kys E)(f:Uq t):∀ x∈E,iG [113] (Kv.nxt (p14 t)) x=true->Ky.frm (14:Nat)=Ky.fIn x.1:=fun x hx d=>by
 obtain⟨k,a,b,c,e⟩:=h x hx
 have e2:x=(Ky.mk k a b,x.2):=by rw[<- e]
 rw[e2,EF f c] at d;obtain⟨rfl,_⟩:=of_decide_eq_true d;rw[e];exact(sE c.2.1 c.2.2).1
theorem Kys.k15(h:Kys E)(g:Uq t):∀ x∈E,p15 t <+: x.1->Ky.frm (15:Nat)=Ky.fIn x.1:=fun x hx f=>by
 obtain⟨k,a,b,c,e⟩:=h x hx;rw[e] at f;have d:=(key15 g c).symm.trans (decide_eq_true f);obtain⟨rfl,_⟩:=of_decide_eq_true d;rw[e];exact(back15 c.2.1 c.2.2).1
theorem Kys.k113(h:Kys E):∀ x∈E,[113] <+: x.1->Ky.frm (14:Nat)=Ky.fIn x.1:=fun x hx f=>by
 obtain⟨k,a,b,c,e⟩:=h x hx;rw[e] at f;have d:=(zU c).symm.trans (decide_eq_true f);obtain rfl:=of_decide_eq_true d;rw[e];exact(sE c.2.1 c.2.2).1
theorem Kys.upto(h:Kys E)(f:Uq t):(E.filter (fun x=>decide ([113] <+: x.1))).filter (fun x=>decide (Ky.rdA 14 x.1<=t))=E.filter (iG [113] (Kv.nxt (p14 t))):=by
 rw[List.filter_filter];refine List.filter_congr (fun x hx=>?_);obtain⟨k,a,b,d,e⟩:=h x hx
 have e2:x=(Ky.mk k a b,x.2):=by rw[<- e]
 rw[e2,EF f d,zU d];by_cases c:k=14
 ·subst c;simp[(sE d.2.1 d.2.2).2.1]
 ·simp[c]
end
end
end Qu
end
end Go.Proofs.YtidnifmehnjipaaGreat
