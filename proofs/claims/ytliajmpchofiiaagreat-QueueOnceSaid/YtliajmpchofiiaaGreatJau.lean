/- Several texts, joined: QuS, QuT, QuU. -/
import Derived.Test.YtliajmpchofiiaaGreatJap
import Derived.Test.YtliajmpchofiiaaGreatJat
import Derived.Test.YtliajmpchofiiaaGreatJaq
import Derived.Test.YtliajmpchofiiaaGreatJag
set_option maxRecDepth 100000
set_option maxHeartbeats 8000000
namespace Go.Proofs.YtliajmpchofiiaaGreat
section
namespace Qu
open Go.RowKit Go.Lib Pg Lim Gl Kv Bk Pw
section
variable {i k a b:Int}
set_option linter.unusedVariables false
set_option linter.unusedSimpArgs false
abbrev Uq(x:Int):Prop:=0<=x/\x < 18446744073709551616
def Ok(k a b:Int):Prop:=((k=2/\a=0/\b=0)\/(k=12/\b=0)\/(k=13/\b=0)\/k=14\/k=15\/k=17)/\Uq a/\Uq b
theorem ok2:Ok 2 0 0:=⟨.inl ⟨rfl,rfl,rfl⟩,by decide,by decide⟩
theorem ok12(h:Uq i):Ok 12 i 0:=⟨.inr (.inl ⟨rfl,rfl⟩),h,by decide⟩
theorem ok13(h:Uq i):Ok 13 i 0:=⟨.inr (.inr (.inl ⟨rfl,rfl⟩)),h,by decide⟩
theorem okr(hk:k=12\/k=13)(h:Uq i):Ok k i 0:=by
 rcases hk with rfl | rfl
 ·exact ok12 h
 ·exact ok13 h
theorem oY(h:Uq a)(h2:Uq b):Ok 14 a b:=⟨by simp,h,h2⟩
theorem qf(h:Uq a)(h2:Uq b):Ok 15 a b:=⟨by simp,h,h2⟩
theorem gM(h:Uq a)(h2:Uq b):Ok 17 a b:=⟨by simp,h,h2⟩
theorem Ok.nat(h:Ok k a b):∃ n:Nat,k=(n:Int)/\n < 18/\0 < n/\Ky.mkE k a b=false:=by
 rcases h.1 with⟨rfl,rfl,rfl⟩ | ⟨rfl,rfl⟩ | ⟨rfl,rfl⟩ | rfl | rfl | rfl
 ·exact⟨2,rfl,by decide,by decide,xW⟩
 ·exact⟨12,rfl,by decide,by decide,qa a⟩
 ·exact⟨13,rfl,by decide,by decide,pY a⟩
 ·exact⟨14,rfl,by decide,by decide,p7 a b⟩
 ·exact⟨15,rfl,by decide,by decide,pF a b⟩
 ·exact⟨17,rfl,by decide,by decide,sG a b⟩
theorem vG{k' a' b':Int}(h:Ok k a b)(h':Ok k' a' b')(e:Ky.mk k a b=Ky.mk k' a' b'):k=k'/\a=a'/\b=b':=by
 obtain⟨n,rfl,n1,n2,n3⟩:=h.nat;obtain⟨m,rfl,m1,m2,m3⟩:=h'.nat;obtain⟨e1,e2,e3⟩:=Ky.mk_inj n1 n2 m1 m2 h.2.1 h.2.2 h'.2.1 h'.2.2 n3 m3 e;exact⟨by rw[e1],e2,e3⟩
end
section
variable {E:ay} {k a b k' a' b':Int} {v:List Int}
theorem lkp (hR:cC E) (h:Ok k a b) (h':Ok k' a' b'):Kv.look (put E (Ky.mk k a b) v) (Ky.mk k' a' b')=if k=k'/\a=a'/\b=b' then some v else Kv.look E (Ky.mk k' a' b'):=by
 rw[xH hR];by_cases e:k=k'/\a=a'/\b=b'
 ·rw[if_pos e,if_pos (by rw[e.1,e.2.1,e.2.2])]
 ·rw[if_neg e,if_neg (fun x=>e (vG h h' x))]
theorem lkr (hR:cC E) (h:Ok k a b) (h':Ok k' a' b'):Kv.look (Kv.rem E (Ky.mk k a b)) (Ky.mk k' a' b')=if k=k'/\a=a'/\b=b' then none else Kv.look E (Ky.mk k' a' b'):=by
 rw[vV hR];by_cases e:k=k'/\a=a'/\b=b'
 ·rw[if_pos e,if_pos (by rw[e.1,e.2.1,e.2.2])]
 ·rw[if_neg e,if_neg (fun x=>e (vG h h' x))]
end
section
variable {x x0 x1 x2 x3 x4 x5:Int}
theorem nw(hx:Uq x):dN (nv x)=x:=by
 obtain⟨ys,h1,h2⟩:=Rc.iL (fun o=>([x]:List Int).getD o 0) [(0,0)] [] (fun _=>0) (by decide) (List.forall_mem_cons.2 ⟨hx,fun _ h=>by cases h⟩);rw[List.append_nil] at h1
 have e:Rc.dI (nv x)=(0,[],ys):=h1;unfold dN;rw[e];exact h2.1 (0,0) (by simp)
theorem sC(r0:Uq x0)(r1:Uq x1)(r2:Uq x2)(r3:Uq x3)(r4:Uq x4)(r5:Uq x5):uX (uv x0 x1 x2 x3 x4 x5) 0=x0/\uX (uv x0 x1 x2 x3 x4 x5) 1=x1/\uX (uv x0 x1 x2 x3 x4 x5) 2=x2/\uX (uv x0 x1 x2 x3 x4 x5) 3=x3/\uX (uv x0 x1 x2 x3 x4 x5) 4=x4/\uX (uv x0 x1 x2 x3 x4 x5) 5=x5:=by
 obtain⟨ys,h1,h2⟩:=Rc.iL (fun o=>([x0,x1,x2,x3,x4,x5]:List Int).getD o 0) [(0,0),(0,1),(0,2),(0,3),(0,4),(0,5)] [] (fun _=>0) (by decide) (List.forall_mem_cons.2 ⟨r0,List.forall_mem_cons.2 ⟨r1,List.forall_mem_cons.2 ⟨r2,List.forall_mem_cons.2 ⟨r3,List.forall_mem_cons.2 ⟨r4,List.forall_mem_cons.2 ⟨r5,fun _ h=>by cases h⟩⟩⟩⟩⟩⟩);rw[List.append_nil] at h1
 have e:Rc.bp (uv x0 x1 x2 x3 x4 x5)=(0,[],ys):=h1;unfold uX;rw[e];exact⟨h2.1 (0,0) (by simp),h2.1 (0,1) (by simp),h2.1 (0,2) (by simp),h2.1 (0,3) (by simp),h2.1 (0,4) (by simp),h2.1 (0,5) (by simp)⟩
theorem sJ{x6:Int}(r0:Uq x0)(r1:Uq x1)(r2:Uq x2)(r3:Uq x3)(r4:Uq x4)(r5:Uq x5)(r6:0<=x6):(mX (mv x0 x1 x2 x3 x4 x5 x6) 0=x0/\mX (mv x0 x1 x2 x3 x4 x5 x6) 1=x1/\mX (mv x0 x1 x2 x3 x4 x5 x6) 2=x2)/\(mX (mv x0 x1 x2 x3 x4 x5 x6) 3=x3/\mX (mv x0 x1 x2 x3 x4 x5 x6) 4=x4/\mX (mv x0 x1 x2 x3 x4 x5 x6) 5=x5)/\mX (mv x0 x1 x2 x3 x4 x5 x6) 6=Rc.fit x6:=by
 obtain⟨ys,h1,h2⟩:=Rc.iL (fun o=>([x0,x1,x2,x3,x4,x5,x6]:List Int).getD o 0) [(0,0),(0,1),(0,2),(0,3),(0,4),(0,5),(2,6)] [] (fun _=>0) (by decide) (List.forall_mem_cons.2 ⟨r0,List.forall_mem_cons.2 ⟨r1,List.forall_mem_cons.2 ⟨r2,List.forall_mem_cons.2 ⟨r3,List.forall_mem_cons.2 ⟨r4,List.forall_mem_cons.2 ⟨r5,List.forall_mem_cons.2 ⟨r6,fun _ h=>by cases h⟩⟩⟩⟩⟩⟩⟩);rw[List.append_nil] at h1
 have e:Rc.dm (mv x0 x1 x2 x3 x4 x5 x6)=(0,[],ys):=h1;unfold mX;rw[e];exact⟨⟨h2.1 (0,0) (by simp),h2.1 (0,1) (by simp),h2.1 (0,2) (by simp)⟩,⟨h2.1 (0,3) (by simp),h2.1 (0,4) (by simp),h2.1 (0,5) (by simp)⟩,h2.1 (2,6) (by simp)⟩
theorem iI{y:Int}(hx:Uq x)(hy:Uq y):dC (pv x y)=x/\aN (pv x y)=y:=Bk.zO hx hy
structure Qe where
 id:Int
 k:Int
 del:Int
 val:Int
 due:Int
def cnt(A:List Qe)(a b:Int):Nat:=A.countP (fun e=>decide (e.del=a/\e.val=b))
def rP(e:Qe)(l:List Int):Prop:=(e.k=12->uX l 0=e.del/\uX l 1=e.val/\uX l 3=e.due)/\(e.k=13->mX l 0=e.del/\mX l 1=e.val/\mX l 4=e.due)
structure Qs(E:ay)(nx:Int)(A:List Qe):Prop where
 cF:cC E
 keys:∀ x∈E,∃ k a b,Ok k a b/\x.1=Ky.mk k a b
 next:aN (chn E)=nx
 hgt:Uq (dC (chn E))
 nx0:0<=nx
 ids:A.Pairwise (fun x y=>x.id≠y.id)
 dD:∀ e∈A,(e.k=12\/e.k=13)/\(0<=e.id/\e.id < nx)/\Uq e.del/\Uq e.val/\Uq e.due
 uf:∀ e∈A,∃ l,Kv.look E (Ky.mk e.k e.id 0)=some l/\rP e l
 gT:∀ k i,(k=12\/k=13)->Uq i->(∀ e∈A,¬ (e.id=i/\e.k=k))->Kv.look E (Ky.mk k i 0)=none
 uW:∀ d i,Uq d->Uq i->∀ v,Kv.look E (Ky.mk 14 d i)=some v<->∃ e∈A,e.id=i/\e.due=d/\v=nv e.k
 tX:∀ d i,Uq d->Uq i->∀ v,Kv.look E (Ky.mk 15 d i)=some v<->∃ e∈A,e.id=i/\e.val=d/\v=nv e.k
 xg:∀ a b,Uq a->Uq b->Kv.look E (Ky.mk 17 a b)=if cnt A a b=0 then none else some (nv (cnt A a b:Nat))
end
section
variable {E:ay} {nx:Int} {A:List Qe}
section
variable {a b:Int}{e:Qe}{k v r:List Int}
theorem qL(A:List Qe)(a b:Int):Qu.cnt A a b<=A.length:=List.countP_le_length
theorem Qs.cR(h:Qs E nx A)(ha:Uq a)(hb:Uq b)(hA:A.length<=1000000):Qu.cR E a b=(Qu.cnt A a b:Nat):=by
 have h1:=qL A a b;unfold Qu.cR got;rw[h.xg a b ha hb];split
 ·rename_i e; rw[e]; exact vS
 ·show dN (nv _)=_
  exact nw ⟨by omega,by omega⟩
theorem Qs.one(h:Qs E nx A){f:Qe}(he:e∈A)(hf:f∈A)(hid:e.id=f.id):e=f:=by
 have:=h.ids;clear h
 induction A with
 | nil=>cases he
 | cons x A ih =>
  rw[List.pairwise_cons] at this;rcases List.mem_cons.1 he with h1 | h1<;>rcases List.mem_cons.1 hf with h2 | h2
  ·rw[h1,h2]
  ·exact absurd (by rw[<- h1]; exact hid) (this.1 f h2)
  ·exact absurd (by rw[<- h2]; exact hid.symm) (this.1 e h1)
  ·exact ih h1 h2 this.2
theorem pG{x:KV}(h:x∈put E k v):x∈E\/x.1=k:=(Pw.zC h).imp id (fun e=>by rw[e])
theorem dZ{k:Int}(h:∀ x∈E,∃ k a b,Ok k a b/\x.1=Ky.mk k a b)(ho:Ok k a b):∀ x∈put E (Ky.mk k a b) v,∃ k a b,Ok k a b/\x.1=Ky.mk k a b:=fun x hx=>(pG hx).elim (h x) (fun e=>⟨k,a,b,ho,e⟩)
theorem eI(h:∀ x∈E,∃ k a b,Ok k a b/\x.1=Ky.mk k a b):∀ x∈Kv.rem E k,∃ k a b,Ok k a b/\x.1=Ky.mk k a b:=fun x hx=>h x (List.mem_filter.1 hx).1
theorem nP(A:List Qe)(e:Qe)(a b:Int):Qu.cnt (A ++ [e]) a b=Qu.cnt A a b + if e.del=a/\e.val=b then 1 else 0:=by
 unfold Qu.cnt;rw[List.countP_append];by_cases h:e.del=a/\e.val=b
 ·rw[if_pos h]; simp[h]
 ·rw[if_neg h]; simp[h]
def E1b(E:ay)(i:Int)(e:Qe)(r:List Int):ay:=put (put (put (fM E) (Ky.mk e.k i 0) r) (Ky.mk 14 e.due i) (nv e.k)) (Ky.mk 15 e.val i) (nv e.k)
theorem j1(h:cC E):cC (fM E):=h.put _ _
theorem lE(h:cC E)(i:Int)(e:Qe)(r:List Int):cC (E1b E i e r):=(((j1 h).put _ _).put _ _).put _ _
theorem kR(h:cC E){i:Int}(hk:e.k=12\/e.k=13)(hi:Uq i)(hv:Uq e.val)(hd:Uq e.due){k:Int}(ho:Ok k a b):Kv.look (E1b E i e r) (Ky.mk k a b)=if 15=k/\e.val=a/\i=b then some (nv e.k) else if 14=k/\e.due=a/\i=b then some (nv e.k) else if e.k=k/\i=a/\0=b then some r else if 2=k/\0=a/\0=b then some (pv (dC (chn E)) ((aN (chn E) + 1) % 18446744073709551616)) else Kv.look E (Ky.mk k a b):=by
 unfold E1b;rw[lkp (((j1 h).put _ _).put _ _) (qf hv hi) ho,lkp ((j1 h).put _ _) (oY hd hi) ho,lkp (j1 h) (okr hk hi) ho];unfold fM;rw[lkp h ok2 ho]
theorem pM(h:Qs E nx A)(hnx:nx + 1 < 18446744073709551616)(hA:A.length<=100000)(hk:e.k=12\/e.k=13)(hdl:Uq e.del)(hv:Uq e.val)(hd:Uq e.due) :
  cY E e.k r e.del e.val e.due=put (E1b E nx e r) (Ky.mk 17 e.del e.val) (nv ((Qu.cnt A e.del e.val + 1:Nat):Int))/\rputE (put (fM E) (Ky.mk e.k nx 0) r) e.k nx e.del e.val e.due=put (E1b E nx e r) (Ky.mk 17 e.del e.val) (nv ((Qu.cnt A e.del e.val + 1:Nat):Int)):=by
 have hi:Uq nx:=⟨h.nx0,by omega⟩
 have hc:Qu.cR (E1b E nx e r) e.del e.val=(Qu.cnt A e.del e.val:Nat):=by
  rw[<- h.cR hdl hv (by omega)];unfold Qu.cR got;rw[kR h.cF hk hi hv hd (gM hdl hv),if_neg (by simp),if_neg (by simp),if_neg (by omega),if_neg (by simp)]
 have h1:=qL A e.del e.val
 have h2:((Qu.cnt A e.del e.val:Nat) + 1:Int) % 18446744073709551616=((Qu.cnt A e.del e.val + 1:Nat):Int):=by omega
 refine⟨?_,?_⟩
 ·unfold cY;simp only[h.next]
  show ow (E1b E nx e r) e.del e.val ((Qu.cR (E1b E nx e r) e.del e.val + 1) % 18446744073709551616)=_
  rw[hc,h2];unfold ow;rw[if_neg (by omega)]
 ·show put (E1b E nx e r) (Ky.mk 17 e.del e.val) (nv ((Qu.cR (E1b E nx e r) e.del e.val + 1) % 18446744073709551616))=_
  rw[hc,h2]
theorem Qs.begin(h:Qs E nx A)(hnx:nx + 1 < 18446744073709551616)(hA:A.length<=100000)(hid:e.id=nx)(hk:e.k=12\/e.k=13)(hdl:Uq e.del)(hv:Uq e.val)(hd:Uq e.due)(hr:rP e r):Qs (cY E e.k r e.del e.val e.due) (nx + 1) (A ++ [e]):=by
 rw[(pM h hnx hA hk hdl hv hd).1]
 have hi:Uq nx:=⟨h.nx0,by omega⟩
 have L:∀ {k a b:Int},Ok k a b->Kv.look (put (E1b E nx e r) (Ky.mk 17 e.del e.val) (nv ((Qu.cnt A e.del e.val + 1:Nat):Int))) (Ky.mk k a b)=if 17=k/\e.del=a/\e.val=b then some (nv ((Qu.cnt A e.del e.val + 1:Nat):Int)) else if 15=k/\e.val=a/\nx=b then some (nv e.k) else if 14=k/\e.due=a/\nx=b then some (nv e.k) else if e.k=k/\nx=a/\0=b then some r else if 2=k/\0=a/\0=b then some (pv (dC (chn E)) (nx + 1)) else Kv.look E (Ky.mk k a b):=fun {k a b} ho=>by
  rw[lkp (lE h.cF _ _ _) (gM hdl hv) ho,kR h.cF hk hi hv hd ho,h.next,show (nx + 1) % 18446744073709551616=nx + 1 by have:=h.nx0; omega]
 have hch:chn (put (E1b E nx e r) (Ky.mk 17 e.del e.val) (nv ((Qu.cnt A e.del e.val + 1:Nat):Int)))=pv (dC (chn E)) (nx + 1):=by
  unfold chn got;rw[L ok2,if_neg (by simp),if_neg (by simp),if_neg (by simp),if_neg (by omega),if_pos (by simp)];rfl
 obtain⟨p1,p2⟩:=iI h.hgt (y:=nx + 1) ⟨by have:=h.nx0; omega,hnx⟩
 have old:∀ f∈A,f.id≠nx:=fun f hf e=>by have:=(h.dD f hf).2.1; omega
 refine⟨(lE h.cF _ _ _).put _ _,?_,by rw[hch]; exact p2,by rw[hch,p1]; exact h.hgt,by have:=h.nx0; omega,?_,?_,?_,?_,?_,?_,?_⟩
 ·exact dZ (dZ (dZ (dZ (dZ h.keys ok2) (okr hk hi)) (oY hd hi)) (qf hv hi)) (gM hdl hv)
 ·rw[List.pairwise_append];exact⟨h.ids,List.pairwise_singleton _ _,fun a ha b hb=>by rw[List.mem_singleton.1 hb,hid]; exact old a ha⟩
 ·intro f hf;rcases List.mem_append.1 hf with hf | hf
  ·obtain⟨g1,g2,g3⟩:=h.dD f hf;exact⟨g1,⟨g2.1,by omega⟩,g3⟩
  ·rw[List.mem_singleton.1 hf];exact⟨hk,⟨by omega,by omega⟩,hdl,hv,hd⟩
 ·intro f hf;rcases List.mem_append.1 hf with hf | hf
  ·obtain⟨g1,g2,g3⟩:=h.dD f hf;have:=old f hf;rw[L (okr g1 ⟨g2.1,by omega⟩),if_neg (by omega),if_neg (by omega),if_neg (by omega),if_neg (by omega),if_neg (by omega)];exact h.uf f hf
  ·rw[List.mem_singleton.1 hf,hid,L (okr hk hi),if_neg (by omega),if_neg (by omega),if_neg (by omega),if_pos ⟨rfl,rfl,rfl⟩];exact⟨r,rfl,hr⟩
 ·intro k i hk2 hi2 hno
  have hne:¬ (e.id=i/\e.k=k):=hno e (by simp);rw[L (okr hk2 hi2),if_neg (by omega),if_neg (by omega),if_neg (by omega),if_neg (by omega),if_neg (by omega)];exact h.gT k i hk2 hi2 (fun f hf=>hno f (by simp[hf]))
 ·intro d i hd2 hi2 v;rw[L (oY hd2 hi2),if_neg (by simp),if_neg (by simp)];by_cases c:e.due=d/\nx=i
  ·rw[if_pos ⟨rfl,c⟩];constructor
   ·intro q;exact⟨e,by simp,by omega,c.1,by injection q with q; exact q.symm⟩
   ·rintro⟨f,hf,f1,f2,f3⟩;rcases List.mem_append.1 hf with hf | hf
    ·exact absurd (f1.trans c.2.symm) (old f hf)
    ·rw[f3,List.mem_singleton.1 hf]
  ·rw[if_neg (fun x=>c x.2),if_neg (by omega),if_neg (by simp),h.uW d i hd2 hi2 v];constructor
   ·rintro⟨f,hf,q⟩;exact⟨f,by simp[hf],q⟩
   ·rintro⟨f,hf,q⟩;rcases List.mem_append.1 hf with hf | hf
    ·exact⟨f,hf,q⟩
    ·rw[List.mem_singleton.1 hf] at q;exact absurd ⟨q.2.1,by omega⟩ c
 ·intro d i hd2 hi2 v;rw[L (qf hd2 hi2),if_neg (by simp)];by_cases c:e.val=d/\nx=i
  ·rw[if_pos ⟨rfl,c⟩];constructor
   ·intro q;exact⟨e,by simp,by omega,c.1,by injection q with q; exact q.symm⟩
   ·rintro⟨f,hf,f1,f2,f3⟩;rcases List.mem_append.1 hf with hf | hf
    ·exact absurd (f1.trans c.2.symm) (old f hf)
    ·rw[f3,List.mem_singleton.1 hf]
  ·rw[if_neg (fun x=>c x.2),if_neg (by simp),if_neg (by omega),if_neg (by simp),h.tX d i hd2 hi2 v];constructor
   ·rintro⟨f,hf,q⟩;exact⟨f,by simp[hf],q⟩
   ·rintro⟨f,hf,q⟩;rcases List.mem_append.1 hf with hf | hf
    ·exact⟨f,hf,q⟩
    ·rw[List.mem_singleton.1 hf] at q;exact absurd ⟨q.2.1,by omega⟩ c
 ·intro a b ha hb;rw[L (gM ha hb),nP];by_cases c:e.del=a/\e.val=b
  ·rw[if_pos ⟨rfl,c⟩,if_pos c,if_neg (by omega),c.1,c.2]
  ·rw[if_neg (fun x=>c x.2),if_neg (by simp),if_neg (by simp),if_neg (by omega),if_neg (by simp),if_neg c,Nat.add_zero];exact h.xg a b ha hb
end
end
end Qu
end
section
namespace Qu
open Go.RowKit Go.Lib Pg Lim Gl Kv Bk Pw
set_option linter.unusedVariables false
set_option linter.unusedSimpArgs false
section
variable {E:ay} {nx:Int} {A:List Qe}
section
variable {e:Qe}{k id y:Int}{r:List Int}
def bG(A:List Qe)(i:Int):List Qe:=A.filter (fun x=>decide (x.id≠i))
theorem cp{i:Int}{f:Qe}:f∈bG A i<->f∈A/\f.id≠i:=by unfold bG; rw[List.mem_filter]; simp
theorem kB(x:Qe)(A:List Qe)(a b:Int):Qu.cnt (x :: A) a b=Qu.cnt A a b + if x.del=a/\x.val=b then 1 else 0:=by
 unfold Qu.cnt;rw[List.countP_cons];by_cases h:x.del=a/\x.val=b<;>simp[h]
theorem se(hp:A.Pairwise (fun x y=>x.id≠y.id))(he:e∈A)(a b:Int):Qu.cnt A a b=Qu.cnt (bG A e.id) a b + if e.del=a/\e.val=b then 1 else 0:=by
 induction A with
 | nil=>cases he
 | cons x A ih =>
  rw[List.pairwise_cons] at hp;rcases List.mem_cons.1 he with rfl | he
  ·have h1:bG (e :: A) e.id=A:=by
    unfold bG;rw[List.filter_cons_of_neg (by simp),List.filter_eq_self.2];intro y hy;have:=hp.1 y hy;simp;exact fun q=>this q.symm
   rw[h1,kB]
  ·have h1:bG (x :: A) e.id=x :: bG A e.id:=by
    unfold bG;rw[List.filter_cons_of_pos (by simp; exact hp.1 e he)]
   rw[h1,kB,kB,ih hp.2 he];omega
def E1d(E:ay)(e:Qe):ay:=Kv.rem (Kv.rem (Kv.rem E (Ky.mk e.k e.id 0)) (Ky.mk 14 e.due e.id)) (Ky.mk 15 e.val e.id)
theorem eb(h:cC E)(e:Qe):cC (E1d E e):=((h.rem _).rem _).rem _
theorem eE(h:cC E)(hk:e.k=12\/e.k=13)(hi:Uq e.id)(hv:Uq e.val)(hd:Uq e.due){a b:Int}(ho:Ok k a b):Kv.look (E1d E e) (Ky.mk k a b)=if 15=k/\e.val=a/\e.id=b then none else if 14=k/\e.due=a/\e.id=b then none else if e.k=k/\e.id=a/\0=b then none else Kv.look E (Ky.mk k a b):=by
 unfold E1d;rw[lkr ((h.rem _).rem _) (qf hv hi) ho,lkr (h.rem _) (oY hd hi) ho,lkr h (okr hk hi) ho]
def kE(E:ay)(a b:Int)(c:Nat):ay:=if c=0 then Kv.rem E (Ky.mk 17 a b) else put E (Ky.mk 17 a b) (nv (c:Nat))
theorem Qs.uid(h:Qs E nx A)(hnx:nx<=18446744073709551616)(he:e∈A):Uq e.id:=by have:=(h.dD e he).2.1; exact⟨this.1,by omega⟩
theorem Qs.cpos(h:Qs E nx A)(he:e∈A):Qu.cnt A e.del e.val=Qu.cnt (bG A e.id) e.del e.val + 1:=by rw[se h.ids he,if_pos ⟨rfl,rfl⟩]
theorem nz(h:Qs E nx A)(hnx:nx<=18446744073709551616)(hA:A.length<=100000)(he:e∈A) :
  rh E e.k e.id e.del e.val e.due=kE (E1d E e) e.del e.val (Qu.cnt (bG A e.id) e.del e.val)/\xj E e.k e.id e.del e.val e.due=kE (E1d E e) e.del e.val (Qu.cnt (bG A e.id) e.del e.val):=by
 obtain⟨g1,g2,g3,g4,g5⟩:=h.dD e he;have hi:=h.uid hnx he
 have hc:Qu.cR (E1d E e) e.del e.val=(Qu.cnt A e.del e.val:Nat):=by
  rw[<- h.cR g3 g4 (by omega)];unfold Qu.cR got;rw[eE h.cF g1 hi g4 g5 (gM g3 g4),if_neg (by simp),if_neg (by simp),if_neg (by omega)]
 have h1:=qL A e.del e.val;have h2:=h.cpos he
 have h3:((Qu.cnt A e.del e.val:Nat) - 1:Int) % 18446744073709551616=((Qu.cnt (bG A e.id) e.del e.val:Nat):Int):=by omega
 refine⟨?_,?_⟩
 ·show ow (E1d E e) e.del e.val ((Qu.cR (E1d E e) e.del e.val - 1) % 18446744073709551616)=_
  rw[hc,h3];unfold ow kE;by_cases c:Qu.cnt (bG A e.id) e.del e.val=0
  ·rw[if_pos (by omega),if_pos c]
  ·rw[if_neg (by omega),if_neg c]
 ·show (if Qu.cR (E1d E e) e.del e.val<=1 then Kv.rem (E1d E e) (Ky.mk 17 e.del e.val) else put (E1d E e) (Ky.mk 17 e.del e.val) (nv ((Qu.cR (E1d E e) e.del e.val - 1) % 18446744073709551616)))=_
  rw[hc,h3];unfold kE;by_cases c:Qu.cnt (bG A e.id) e.del e.val=0
  ·rw[if_pos (by omega),if_pos c]
  ·rw[if_neg (by omega),if_neg c]
theorem Qs.end(h:Qs E nx A)(hnx:nx<=18446744073709551616)(hA:A.length<=100000)(he:e∈A):Qs (rh E e.k e.id e.del e.val e.due) nx (bG A e.id):=by
 rw[(nz h hnx hA he).1];obtain⟨g1,g2,g3,g4,g5⟩:=h.dD e he;have hi:=h.uid hnx he
 have L:∀ {k a b:Int},Ok k a b->Kv.look (kE (E1d E e) e.del e.val (Qu.cnt (bG A e.id) e.del e.val)) (Ky.mk k a b)=if 17=k/\e.del=a/\e.val=b then (if Qu.cnt (bG A e.id) e.del e.val=0 then none else some (nv (Qu.cnt (bG A e.id) e.del e.val:Nat))) else if 15=k/\e.val=a/\e.id=b then none else if 14=k/\e.due=a/\e.id=b then none else if e.k=k/\e.id=a/\0=b then none else Kv.look E (Ky.mk k a b):=fun {k a b} ho=>by
  unfold kE;by_cases c:Qu.cnt (bG A e.id) e.del e.val=0
  ·rw[if_pos c,if_pos c,lkr (eb h.cF _) (gM g3 g4) ho,eE h.cF g1 hi g4 g5 ho]
  ·rw[if_neg c,if_neg c,lkp (eb h.cF _) (gM g3 g4) ho,eE h.cF g1 hi g4 g5 ho]
 have hch:chn (kE (E1d E e) e.del e.val (Qu.cnt (bG A e.id) e.del e.val))=chn E:=by
  unfold chn got;rw[L ok2,if_neg (by simp),if_neg (by simp),if_neg (by simp),if_neg (by omega)]
 refine⟨?_,?_,by rw[hch]; exact h.next,by rw[hch]; exact h.hgt,h.nx0,List.Pairwise.filter _ h.ids,fun f hf=>h.dD f (cp.1 hf).1,?_,?_,?_,?_,?_⟩
 ·unfold kE;split
  ·exact(eb h.cF _).rem _
  ·exact(eb h.cF _).put _ _
 ·unfold kE;split
  ·exact eI (eI (eI (eI h.keys)))
  ·exact dZ (eI (eI (eI h.keys))) (gM g3 g4)
 ·intro f hf;obtain⟨hf1,hf2⟩:=cp.1 hf;obtain⟨q1,q2,q3⟩:=h.dD f hf1;rw[L (okr q1 (h.uid hnx hf1)),if_neg (by omega),if_neg (by omega),if_neg (by omega),if_neg (by omega)];exact h.uf f hf1
 ·intro k i hk2 hi2 hno;rw[L (okr hk2 hi2),if_neg (by omega),if_neg (by omega),if_neg (by omega)];split
  ·rfl
  ·rename_i c;refine h.gT k i hk2 hi2 (fun f hf q => ?_);by_cases d:f.id=e.id
   ·have:=h.one hf he d;subst this;omega
   ·exact hno f (cp.2 ⟨hf,d⟩) q
 ·intro d i hd2 hi2 v;rw[L (oY hd2 hi2),if_neg (by simp),if_neg (by simp)];by_cases c:e.due=d/\e.id=i
  ·rw[if_pos ⟨rfl,c⟩];constructor
   ·intro q; cases q
   ·rintro⟨f,hf,f1,f2,f3⟩;exact absurd (f1.trans c.2.symm) (cp.1 hf).2
  ·rw[if_neg (fun x=>c x.2),if_neg (by omega),h.uW d i hd2 hi2 v];constructor
   ·rintro⟨f,hf,q⟩;refine⟨f,cp.2 ⟨hf,fun x=>c ?_⟩,q⟩;have:=h.one hf he x;subst this;exact⟨q.2.1,q.1⟩
   ·rintro⟨f,hf,q⟩;exact⟨f,(cp.1 hf).1,q⟩
 ·intro d i hd2 hi2 v;rw[L (qf hd2 hi2),if_neg (by simp)];by_cases c:e.val=d/\e.id=i
  ·rw[if_pos ⟨rfl,c⟩];constructor
   ·intro q; cases q
   ·rintro⟨f,hf,f1,f2,f3⟩;exact absurd (f1.trans c.2.symm) (cp.1 hf).2
  ·rw[if_neg (fun x=>c x.2),if_neg (by simp),if_neg (by omega),h.tX d i hd2 hi2 v];constructor
   ·rintro⟨f,hf,q⟩;refine⟨f,cp.2 ⟨hf,fun x=>c ?_⟩,q⟩;have:=h.one hf he x;subst this;exact⟨q.2.1,q.1⟩
   ·rintro⟨f,hf,q⟩;exact⟨f,(cp.1 hf).1,q⟩
 ·intro a b ha hb;rw[L (gM ha hb)];by_cases c:e.del=a/\e.val=b
  ·rw[if_pos ⟨rfl,c⟩,c.1,c.2]
  ·rw[if_neg (fun x=>c x.2),if_neg (by simp),if_neg (by simp),if_neg (by omega),h.xg a b ha hb,se h.ids he a b,if_neg c,Nat.add_zero]
theorem Qs.drop(h:Qs E nx A)(hnx:nx<=18446744073709551616)(hA:A.length<=100000)(he:e∈A):bX E e.id e.k=rh E e.k e.id e.del e.val e.due/\ij E e.id e.k=bX E e.id e.k/\dJ E e.id e.k=true:=by
 obtain⟨l,hl,t1,t2⟩:=h.uf e he
 have hg:got E (Ky.mk e.k e.id 0)=l:=by unfold got; rw[hl]; rfl
 have he2:=(nz h hnx hA he)
 rcases(h.dD e he).1 with hk | hk
 ·rw[hk] at hl hg he2 ⊢;obtain⟨q1,q2,q3⟩:=t1 hk
  have e1:bX E e.id 12=rh E 12 e.id e.del e.val e.due:=by
   unfold bX kx;rw[if_pos rfl,hl,if_pos (show (some l).isSome=true from rfl),hg,q1,q2,q3]
  refine⟨e1,?_,?_⟩
  ·unfold ij;rw[e1,if_pos rfl,hl,if_pos (show (some l).isSome=true from rfl),hg,q1,q2,q3,he2.1,he2.2]
  ·unfold dJ;rw[if_pos rfl,hl];rfl
 ·rw[hk] at hl hg he2 ⊢;obtain⟨q1,q2,q3⟩:=t2 hk
  have e1:bX E e.id 13=rh E 13 e.id e.del e.val e.due:=by
   unfold bX kA;rw[if_neg (by decide),if_pos rfl,hl,if_pos (show (some l).isSome=true from rfl),hg,q1,q2,q3]
  refine⟨e1,?_,?_⟩
  ·unfold ij;rw[e1,if_neg (by decide),if_pos rfl,hl,if_pos (show (some l).isSome=true from rfl),hg,q1,q2,q3,he2.1,he2.2]
  ·unfold dJ;rw[if_neg (by decide),if_pos rfl,hl];rfl
theorem Qs.dropN(h:Qs E nx A)(hid:Uq id)(hno:∀ e∈A,¬ (e.id=id/\e.k=k)):bX E id k=E/\ij E id k=E/\dJ E id k=false:=by
 by_cases c:k=12
 ·subst c;have hl:=h.gT 12 id (.inl rfl) hid hno;unfold bX ij dJ kx;simp only[hl];simp
 ·by_cases c2:k=13
  ·subst c2;have hl:=h.gT 13 id (.inr rfl) hid hno;unfold bX ij dJ kA;simp only[hl];simp
  ·unfold bX ij dJ;rw[if_neg c,if_neg c2,if_neg c,if_neg c2,if_neg c,if_neg c2];exact⟨rfl,rfl,rfl⟩
theorem Qs.Bp(h:Qs E nx A)(hk:k=12\/k=13)(hid:Uq id)(hnx:nx<=18446744073709551616)(hs:(Kv.look E (Ky.mk k id 0)).isSome=true)(hr:∀ e∈A,rP e (got E (Ky.mk k id 0))->e.id=id->e.k=k->rP e r):Qs (put E (Ky.mk k id 0) r) nx A:=by
 have L:∀ {k' a b:Int},Ok k' a b->Kv.look (put E (Ky.mk k id 0) r) (Ky.mk k' a b)=if k=k'/\id=a/\0=b then some r else Kv.look E (Ky.mk k' a b):=fun ho=>lkp h.cF (okr hk hid) ho
 have hch:chn (put E (Ky.mk k id 0) r)=chn E:=by
  unfold chn got;rw[L ok2,if_neg (by omega)]
 refine⟨h.cF.put _ _,dZ h.keys (okr hk hid),by rw[hch]; exact h.next,by rw[hch]; exact h.hgt,h.nx0,h.ids,h.dD,?_,?_,?_,?_,?_⟩
 ·intro f hf;rw[L (okr (h.dD f hf).1 (h.uid hnx hf))];by_cases c:k=f.k/\id=f.id/\(0:Int)=0
  ·rw[if_pos c];obtain⟨l,hl,ht⟩:=h.uf f hf;refine⟨r,rfl,hr f hf ?_ c.2.1.symm c.1.symm⟩;unfold got;rw[c.1,c.2.1,hl];exact ht
  ·rw[if_neg c];exact h.uf f hf
 ·intro k2 i hk2 hi2 hno;rw[L (okr hk2 hi2)];by_cases c:k=k2/\id=i/\(0:Int)=0
  ·rw[c.1,c.2.1,h.gT k2 i hk2 hi2 hno] at hs
   cases hs
  ·rw[if_neg c];exact h.gT k2 i hk2 hi2 hno
 ·intro d i hd2 hi2 v;rw[L (oY hd2 hi2),if_neg (by omega)];exact h.uW d i hd2 hi2 v
 ·intro d i hd2 hi2 v;rw[L (qf hd2 hi2),if_neg (by omega)];exact h.tX d i hd2 hi2 v
 ·intro a b ha hb;rw[L (gM ha hb),if_neg (by omega)];exact h.xg a b ha hb
theorem Qs.less(h:Qs E nx A)(hid:Uq id)(hy:Uq y)(hnx:nx<=18446744073709551616)(ho:Oct (got E (Ky.mk 12 id 0))):Qs (gg E id y) nx A:=by
 unfold gg;split
 ·rename_i c;refine h.Bp (.inl rfl) hid hnx c (fun e he t _ hk=>⟨fun _ => ?_,fun k3=>by omega⟩);obtain⟨b0,b1,_,b3,_⟩:=sC (fH ho 0) (fH ho 1) (fH ho 2) (fH ho 3) (fH ho 4) hy;obtain⟨t0,t1,t3⟩:=t.1 hk;exact⟨b0.trans t0,b1.trans t1,b3.trans t3⟩
 ·exact h
theorem Qs.few(h:Qs E nx A)(hid:Uq id)(hy:0<=y)(hnx:nx<=18446744073709551616)(ho:Oct (got E (Ky.mk 13 id 0))):Qs (kJ E id y) nx A:=by
 unfold kJ;split
 ·rename_i c;refine h.Bp (.inr rfl) hid hnx c (fun e he t _ hk=>⟨fun k3=>by omega,fun _ => ?_⟩);obtain⟨⟨b0,b1,_⟩,⟨_,b4,_⟩,_⟩:=sJ (fb ho 0) (fb ho 1) (fb ho 2) (fb ho 3) (fb ho 4) (fb ho 5) hy;obtain⟨t0,t1,t3⟩:=t.2 hk;exact⟨b0.trans t0,b1.trans t1,b4.trans t3⟩
 ·exact h
end
end
end Qu
end
section
namespace Qu
open Go.RowKit Go.Lib Pg Lim Gl Kv Bk Pw
section
variable {k a b h:Int}{t:List Int}
set_option linter.unusedVariables false
set_option linter.unusedSimpArgs false
def p14(h:Int):List Int:=Ky.mkb (Ky.frm 14) (Ky.tn 14 h)
def p15(v:Int):List Int:=Ky.mkb (Ky.frm 15) (Ky.tn 15 v)
theorem lv(h:Int):p14 h=113 :: Ky.be 8 h:=by
 show [113] ++ (if (8:Int) < 17 then Ky.be 8 h else []) ++ (if (0:Int)=0 then [] else [0])=_
 simp
theorem rK(h:Int):p15 h=101 :: Ky.be 8 h:=by
 show [101] ++ (if (8:Int) < 17 then Ky.be 8 h else []) ++ (if (0:Int)=0 then [] else [0])=_
 simp
theorem iU(a b:Int):Ky.mk 14 a b=113 :: (Ky.be 8 a ++ Ky.be 8 b):=by rw[Ky.mk_eq (k:=14) (n:=17) (m0:=113) (m1:=0) rfl]; rfl
theorem oJ(a b:Int):Ky.mk 15 a b=101 :: (Ky.be 8 a ++ Ky.be 8 b):=by rw[Ky.mk_eq (k:=15) (n:=17) (m0:=101) (m1:=0) rfl]; rfl
theorem Bi(h:Ok k a b)(h14:k≠14):∃ m t,Ky.mk k a b=m :: t/\(m=99\/m=117\/m=114\/m=101\/m=107)/\(m=101->k=15):=by
 rcases h.1 with⟨rfl,rfl,rfl⟩ | ⟨rfl,rfl⟩ | ⟨rfl,rfl⟩ | rfl | rfl | rfl
 ·exact⟨99,_,by rw[Ky.mk_eq (k:=2) (n:=1) (m0:=99) (m1:=0) rfl]; rfl,by decide,by decide⟩
 ·exact⟨117,_,by rw[Ky.mk_eq (k:=12) (n:=9) (m0:=117) (m1:=0) rfl]; rfl,by decide,by decide⟩
 ·exact⟨114,_,by rw[Ky.mk_eq (k:=13) (n:=9) (m0:=114) (m1:=0) rfl]; rfl,by decide,by decide⟩
 ·exact absurd rfl h14
 ·exact⟨101,_,oJ a b,by decide,by decide⟩
 ·exact⟨107,_,by rw[Ky.mk_eq (k:=17) (n:=17) (m0:=107) (m1:=0) rfl]; rfl,by decide,by decide⟩
theorem AU(h:Uq a):0<=a/\a < 256 ^ 8:=by rw[show (256:Int) ^ 8=18446744073709551616 by decide]; exact h
theorem vz(ha:Uq a)(hh:Uq h):Ky.be 8 h <+: Ky.be 8 a ++ t<->a=h:=by
 constructor
 ·rintro⟨s,e⟩;have:=(List.append_inj e (by rw[Ky.aJ,Ky.aJ])).1;exact((Ky.be8_eq (AU hh) (AU ha)).1 this).symm
 ·rintro rfl;exact List.prefix_append _ _
theorem xJ(k a b:Int)(h:Ok k a b):Oct (Ky.mk k a b):=by
 rcases h.1 with⟨rfl,rfl,rfl⟩ | ⟨rfl,rfl⟩ | ⟨rfl,rfl⟩ | rfl | rfl | rfl
 ·rw[Ky.mk_eq (k:=2) (n:=1) (m0:=99) (m1:=0) rfl]; intro x hx; simp at hx; omega
 ·rw[Ky.mk_eq (k:=12) (n:=9) (m0:=117) (m1:=0) rfl];intro x hx;simp at hx;rcases hx with rfl | hx
  ·decide
  ·exact Ky.dk _ _ x hx
 ·rw[Ky.mk_eq (k:=13) (n:=9) (m0:=114) (m1:=0) rfl];intro x hx;simp at hx;rcases hx with rfl | hx
  ·decide
  ·exact Ky.dk _ _ x hx
 ·rw[iU];intro x hx;simp at hx;rcases hx with rfl | hx | hx
  ·decide
  ·exact Ky.dk _ _ x hx
  ·exact Ky.dk _ _ x hx
 ·rw[oJ];intro x hx;simp at hx;rcases hx with rfl | hx | hx
  ·decide
  ·exact Ky.dk _ _ x hx
  ·exact Ky.dk _ _ x hx
 ·rw[Ky.mk_eq (k:=17) (n:=17) (m0:=107) (m1:=0) rfl];intro x hx;simp at hx;rcases hx with rfl | hx | hx
  ·decide
  ·exact Ky.dk _ _ x hx
  ·exact Ky.dk _ _ x hx
theorem sH(h:Int):Ky.nxt (p14 h)≠[]:=by
 intro e;have:=Ky.oR e 113 (by rw[lv]; simp);omega
theorem yw(hh:Uq h)(ho:Ok k a b)(v:List Int):gV [113] (Ky.nxt (p14 h)) (Ky.mk k a b,v)=decide (k=14/\a<=h):=by
 unfold gV;simp only[];by_cases c:k=14
 ·subst c
  have h1:¬ Lt (Ky.mk 14 a b) [113]:=by
   rw[iU,Ky.aV];rintro(q | ⟨_,q⟩)
   ·omega
   ·exact Ky.not_lt_nil q
  have hp:p14 h <+: Ky.mk 14 a b<->a=h:=by rw[lv,iU,List.cons_prefix_cons]; simp only[true_and]; exact vz ho.2.1 hh
  have hl:Lt (Ky.mk 14 a b) (p14 h)<->a < h:=by
   have e:Ky.be 8 h=Ky.be 8 h ++ []:=by simp
   rw[lv,iU,Ky.aV,e,Ky.iv (by rw[Ky.aJ,Ky.aJ]),Ky.be8_lt (AU ho.2.1) (AU hh)];constructor
   ·rintro(q | ⟨_,q | ⟨_,q⟩⟩)
    ·omega
    ·exact q
    ·exact absurd q Ky.not_lt_nil
   ·intro q;exact .inr ⟨rfl,.inl q⟩
  have h2:Lt (Ky.mk 14 a b) (Ky.nxt (p14 h))<->a<=h:=by
   constructor
   ·intro q;by_cases c:a<=h
    ·exact c
    ·exact absurd q (Ky.ft (xJ _ _ _ ho) (fun x=>by have:=hp.1 x; omega) (fun x=>by have:=hl.1 x; omega))
   ·intro q;rcases Int.lt_or_eq_of_le q with q | q
    ·exact(hl.2 q).trans (Ky.lt_nxt (sH h))
    ·exact Ky.iu (sH h) (hp.2 q)
  simp[h1,sH,h2]
 ·obtain⟨m,t,e,hm,_⟩:=Bi ho c
  have h3:decide (k=14/\a<=h)=false:=decide_eq_false (fun x=>c x.1);rw[h3];by_cases hlt:m < 113
  ·have:Lt (Ky.mk k a b) [113]:=by rw[e,Ky.aV]; exact .inl hlt
   simp[this]
  ·have:¬ Lt (Ky.mk k a b) (Ky.nxt (p14 h)):=Ky.ft (xJ _ _ _ ho) (by rw[e,lv,List.cons_prefix_cons]; rintro⟨q,_⟩; omega) (by
    rw[e,lv,Ky.aV];rintro(q | ⟨q,_⟩)<;>omega)
   simp[this,sH]
theorem yn(hh:Uq h)(ho:Ok k a b):decide (p15 h <+: Ky.mk k a b)=decide (k=15/\a=h):=by
 by_cases c:k=15
 ·subst c;have:p15 h <+: Ky.mk 15 a b<->a=h:=by rw[rK,oJ,List.cons_prefix_cons]; simp only[true_and]; exact vz ho.2.1 hh
  simp[this]
 ·have h3:decide (k=15/\a=h)=false:=decide_eq_false (fun x=>c x.1);rw[h3];refine decide_eq_false (fun x => ?_);by_cases c2:k=14
  ·subst c2;rw[rK,iU,List.cons_prefix_cons] at x;omega
  ·obtain⟨m,t,e,hm,hm2⟩:=Bi ho c2;rw[e,rK,List.cons_prefix_cons] at x;exact c (hm2 x.1.symm)
theorem nV(ha:Uq a)(hb:Uq b):Ky.frm (14:Nat)=Ky.fIn (Ky.mk 14 a b)/\Ky.rdA 14 (Ky.mk 14 a b)=a/\Ky.rdB (Ky.mk 14 a b)=b:=Ky.kh (k:=14) (by decide) (by decide) ha hb (p7 a b)
theorem xV(ha:Uq a)(hb:Uq b):Ky.frm (15:Nat)=Ky.fIn (Ky.mk 15 a b)/\Ky.rdA 15 (Ky.mk 15 a b)=a/\Ky.rdB (Ky.mk 15 a b)=b:=Ky.kh (k:=15) (by decide) (by decide) ha hb (pF a b)
end
section
variable {E:ay} {nx:Int} {A:List Qe}
section
variable {t:Int}{e:Qe}
abbrev Kys(E:ay):Prop:=∀ x∈E,∃ k a b,Ok k a b/\x.1=Ky.mk k a b
theorem Kys.k14(h:Kys E)(ht:Uq t):∀ x∈E,gV [113] (Ky.nxt (p14 t)) x=true->Ky.frm (14:Nat)=Ky.fIn x.1:=fun x hx hp=>by
 obtain⟨k,a,b,ho,e⟩:=h x hx
 have e2:x=(Ky.mk k a b,x.2):=by rw[<- e]
 rw[e2,yw ht ho] at hp;obtain⟨rfl,_⟩:=of_decide_eq_true hp;rw[e];exact(nV ho.2.1 ho.2.2).1
theorem Kys.k15(h:Kys E)(ht:Uq t):∀ x∈E,p15 t <+: x.1->Ky.frm (15:Nat)=Ky.fIn x.1:=fun x hx hp=>by
 obtain⟨k,a,b,ho,e⟩:=h x hx;rw[e] at hp;have hp2:=(yn ht ho).symm.trans (decide_eq_true hp);obtain⟨rfl,_⟩:=of_decide_eq_true hp2;rw[e];exact(xV ho.2.1 ho.2.2).1
def gQ(e:Qe):KV:=(Ky.mk 14 e.due e.id,nv e.k)
def ky(e:Qe):KV:=(Ky.mk 15 e.val e.id,nv e.k)
theorem iQ(h:cC E){k v:List Int}:(k,v)∈E<->Kv.look E k=some v:=by
 constructor
 ·intro hm;have:∀ F:ay,cC F->(k,v)∈F->Kv.look F k=some v:=by
   intro F hF hm
   induction F with
   | nil=>cases hm
   | cons x F ih =>
    have hp:=List.pairwise_cons.1 hF;unfold Kv.look;rcases List.mem_cons.1 hm with e | hm
    ·subst e;rw[List.find?_cons_of_pos (by simp)];rfl
    ·have hl:=hp.1 _ hm;rw[List.find?_cons_of_neg]
     ·exact ih hp.2 hm
     ·intro q;have q2:=of_decide_eq_true q;rw[q2] at hl;exact lt_irrefl _ hl
  exact this E h hm
 ·exact Kv.iX
theorem kinds{x:Int}(h:x=12\/x=13):wrap64 (dN (nv x))=x:=by
 rcases h with rfl | rfl
 ·rw[nw (by decide)]; unfold wrap64; omega
 ·rw[nw (by decide)]; unfold wrap64; omega
def jR(E:ay)(t:Int):ay:=E.filter (gV [113] (Ky.nxt (p14 t)))
def mU(E:ay)(t:Int):ay:=E.filter (fun x=>decide (p15 t <+: x.1))
theorem Qs.jR(h:Qs E nx A)(hnx:nx<=18446744073709551616)(ht:Uq t)(x:KV):x∈jR E t<->∃ e∈A,e.due<=t/\x=gQ e:=by
 unfold Qu.jR;rw[List.mem_filter];constructor
 ·rintro⟨hx,hp⟩;obtain⟨k,a,b,ho,e⟩:=h.keys x hx
  have e2:x=(Ky.mk k a b,x.2):=by rw[<- e]
  rw[e2,yw ht ho] at hp;obtain⟨rfl,hle⟩:=of_decide_eq_true hp;rw[e2] at hx;obtain⟨f,hf,f1,f2,f3⟩:=(h.uW a b ho.2.1 ho.2.2 x.2).1 ((iQ h.cF).1 hx);exact⟨f,hf,by omega,by rw[e2]; unfold gQ; rw[f1,f2,f3]⟩
 ·rintro⟨e,he,hle,rfl⟩;obtain⟨g1,g2,g3,g4,g5⟩:=h.dD e he;have hi:=h.uid hnx he;refine⟨(iQ h.cF).2 ((h.uW e.due e.id g5 hi _).2 ⟨e,he,rfl,rfl,rfl⟩),?_⟩;unfold gQ;rw[yw ht (oY g5 hi)];simp[hle]
theorem Qs.mU(h:Qs E nx A)(hnx:nx<=18446744073709551616)(ht:Uq t)(x:KV):x∈mU E t<->∃ e∈A,e.val=t/\x=ky e:=by
 unfold Qu.mU;rw[List.mem_filter];constructor
 ·rintro⟨hx,hp⟩;obtain⟨k,a,b,ho,e⟩:=h.keys x hx
  have e2:x=(Ky.mk k a b,x.2):=by rw[<- e]
  rw[e,yn ht ho] at hp;obtain⟨rfl,hle⟩:=of_decide_eq_true hp;rw[e2] at hx;obtain⟨f,hf,f1,f2,f3⟩:=(h.tX a b ho.2.1 ho.2.2 x.2).1 ((iQ h.cF).1 hx);exact⟨f,hf,by omega,by rw[e2]; unfold ky; rw[f1,f2,f3]⟩
 ·rintro⟨e,he,hle,rfl⟩;obtain⟨g1,g2,g3,g4,g5⟩:=h.dD e he;have hi:=h.uid hnx he;refine⟨(iQ h.cF).2 ((h.tX e.val e.id g4 hi _).2 ⟨e,he,rfl,rfl,rfl⟩),?_⟩;unfold ky;rw[yn ht (qf g4 hi)];simp[hle]
theorem nO(E:ay)(t:Int):upto E (p14 t)=(jR E t).map (fun x=>(Ky.rdB x.1,wrap64 (dN x.2))):=rfl
theorem ph(E:ay)(t:Int):under E (p15 t)=(mU E t).map (fun x=>(Ky.rdB x.1,wrap64 (dN x.2))):=rfl
theorem Qs.sL(h:Qs E nx A)(hnx:nx<=18446744073709551616)(he:e∈A):(Ky.rdB (gQ e).1,wrap64 (dN (gQ e).2))=(e.id,e.k):=by
 obtain⟨g1,g2,g3,g4,g5⟩:=h.dD e he;unfold gQ;rw[(nV g5 (h.uid hnx he)).2.2,kinds g1]
theorem Qs.sf(h:Qs E nx A)(hnx:nx<=18446744073709551616)(he:e∈A):(Ky.rdB (ky e).1,wrap64 (dN (ky e).2))=(e.id,e.k):=by
 obtain⟨g1,g2,g3,g4,g5⟩:=h.dD e he;unfold ky;rw[(xV g4 (h.uid hnx he)).2.2,kinds g1]
theorem ir(h:cC E):E.Nodup:=List.Pairwise.imp (fun {x y} hl e=>by rw[e] at hl; exact lt_irrefl _ hl) h
theorem Qs.xN(h:Qs E nx A)(hnx:nx<=18446744073709551616)(ht:Uq t)(i k:Int):(upto E (p14 t)).count (i,k)=if ∃ e∈A,e.due<=t/\e.id=i/\e.k=k then 1 else 0:=by
 have nd:(upto E (p14 t)).Nodup:=by
  rw[nO];refine List.pairwise_map.2 (List.Pairwise.imp_of_mem (fun {x y} hx hy hne q=>hne ?_) (ir (List.Pairwise.filter _ h.cF:cC (Qu.jR E t))));obtain⟨e,he,_,rfl⟩:=(h.jR hnx ht x).1 hx;obtain⟨f,hf,_,rfl⟩:=(h.jR hnx ht y).1 hy;rw[h.sL hnx he,h.sL hnx hf] at q;rw[h.one he hf (by injection q)]
 rw[nd.count];have:(i,k)∈upto E (p14 t)<->∃ e∈A,e.due<=t/\e.id=i/\e.k=k:=by
  rw[nO,List.mem_map];constructor
  ·rintro⟨x,hx,q⟩;obtain⟨e,he,hl,rfl⟩:=(h.jR hnx ht x).1 hx;rw[h.sL hnx he] at q;injection q with q1 q2
   exact⟨e,he,hl,q1,q2⟩
  ·rintro⟨e,he,hl,rfl,rfl⟩;exact⟨gQ e,(h.jR hnx ht _).2 ⟨e,he,hl,rfl⟩,h.sL hnx he⟩
 by_cases c:(i,k)∈upto E (p14 t)
 ·rw[if_pos c,if_pos (this.1 c)]
 ·rw[if_neg c,if_neg (fun q=>c (this.2 q))]
theorem Qs.frmIn(h:Qs E nx A)(hnx:nx<=18446744073709551616)(ht:Uq t)(i k:Int):(under E (p15 t)).count (i,k)=if ∃ e∈A,e.val=t/\e.id=i/\e.k=k then 1 else 0:=by
 have nd:(under E (p15 t)).Nodup:=by
  rw[ph];refine List.pairwise_map.2 (List.Pairwise.imp_of_mem (fun {x y} hx hy hne q=>hne ?_) (ir (List.Pairwise.filter _ h.cF:cC (Qu.mU E t))));obtain⟨e,he,_,rfl⟩:=(h.mU hnx ht x).1 hx;obtain⟨f,hf,_,rfl⟩:=(h.mU hnx ht y).1 hy;rw[h.sf hnx he,h.sf hnx hf] at q;rw[h.one he hf (by injection q)]
 rw[nd.count];have:(i,k)∈under E (p15 t)<->∃ e∈A,e.val=t/\e.id=i/\e.k=k:=by
  rw[ph,List.mem_map];constructor
  ·rintro⟨x,hx,q⟩;obtain⟨e,he,hl,rfl⟩:=(h.mU hnx ht x).1 hx;rw[h.sf hnx he] at q;injection q with q1 q2
   exact⟨e,he,hl,q1,q2⟩
  ·rintro⟨e,he,hl,rfl,rfl⟩;exact⟨ky e,(h.mU hnx ht _).2 ⟨e,he,hl,rfl⟩,h.sf hnx he⟩
 by_cases c:(i,k)∈under E (p15 t)
 ·rw[if_pos c,if_pos (this.1 c)]
 ·rw[if_neg c,if_neg (fun q=>c (this.2 q))]
theorem Qs.xO(h:Qs E nx A)(hnx:nx<=18446744073709551616):(upto E (p14 18446744073709551615)).length=A.length:=by
 rw[nO,List.length_map]
 have nd:(A.map gQ).Nodup:=by
  refine List.pairwise_map.2 (List.Pairwise.imp_of_mem (fun {e f} he hf hne q=>hne ?_) h.ids);have:=congrArg (fun x:KV=>Ky.rdB x.1) q;obtain⟨g1,g2,g3,g4,g5⟩:=h.dD e he;obtain⟨k1,k2,k3,k4,k5⟩:=h.dD f hf;simp only[gQ] at this;rw[(nV g5 (h.uid hnx he)).2.2,(nV k5 (h.uid hnx hf)).2.2] at this;exact this
 have p:(Qu.jR E 18446744073709551615).Perm (A.map gQ):=(List.perm_ext_iff_of_nodup (ir (List.Pairwise.filter _ h.cF:cC (Qu.jR E _))) nd).2 (fun x=>by
  refine(h.jR hnx (by decide) x).trans ?_
  rw[List.mem_map];constructor
  ·rintro⟨e,he,_,rfl⟩;exact⟨e,he,rfl⟩
  ·rintro⟨e,he,rfl⟩;exact⟨e,he,by have:=(h.dD e he).2.2.2.2; omega,rfl⟩)
 rw[p.length_eq,List.length_map]
theorem Qs.bare(h:Qs E nx []):E.length<=1:=by
 have hk:∀ x∈E,x.1=Ky.mk 2 0 0:=fun x hx=>by
  obtain⟨k,a,b,ho,e⟩:=h.keys x hx
  have hl:Kv.look E (Ky.mk k a b)=some x.2:=(iQ h.cF).1 (by rw[<- e]; exact hx);rcases ho.1 with⟨rfl,rfl,rfl⟩ | ⟨rfl,rfl⟩ | ⟨rfl,rfl⟩ | rfl | rfl | rfl
  ·exact e
  ·rw[h.gT 12 a (.inl rfl) ho.2.1 (fun _ h=>by cases h)] at hl; cases hl
  ·rw[h.gT 13 a (.inr rfl) ho.2.1 (fun _ h=>by cases h)] at hl; cases hl
  ·obtain⟨f,hf,_⟩:=(h.uW a b ho.2.1 ho.2.2 x.2).1 hl; cases hf
  ·obtain⟨f,hf,_⟩:=(h.tX a b ho.2.1 ho.2.2 x.2).1 hl; cases hf
  ·rw[h.xg a b ho.2.1 ho.2.2] at hl; cases hl
 have hr:=h.cF
 match E,hk,hr with
 | [],_,_=>simp
 | [_],_,_=>simp
 | x :: y :: E,hk,hr =>
  have h1:=hk x (by simp);have h2:=hk y (by simp);have h3:=(List.pairwise_cons.1 hr).1 y (by simp);rw[h1,h2] at h3;exact absurd h3 (lt_irrefl _)
end
end
end Qu
end
end Go.Proofs.YtliajmpchofiiaaGreat
