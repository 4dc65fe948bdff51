import Derived.Test.YtidnifmehnjipaaGreatJac
import Derived.Laws.LoneSync
set_option maxRecDepth 100000
set_option maxHeartbeats 8000000
namespace Go.Proofs.YtidnifmehnjipaaGreat
section
namespace Kv
open Pg
section
variable {k x v:List Int}{Q:List (List KV)}
abbrev ay:=List KV
def cI(E:ay):Prop:=E.Pairwise fun x y=>Lt x.1 y.1
def look(E:ay)(k:List Int):Option (List Int):=(E.find? (fun x=>decide (x.1=k))).map Prod.snd
def put(E:ay)(k v:List Int):ay:=E.filter (fun x=>decide (Lt x.1 k)) ++ (k,v) :: E.filter (fun x=>decide (Lt k x.1))
def rem(E:ay)(k:List Int):ay:=E.filter (fun x=>decide (¬ x.1=k))
theorem db{α:Type}{p:α->Bool}{l:List α}(h:∀ x∈l,p x=true):l.filter p=l:=List.filter_eq_self.2 h
theorem dX{α:Type}{p:α->Bool}{l:List α}(h:∀ x∈l,p x=false):l.filter p=[]:=List.filter_eq_nil_iff.2 (fun x hx=>by rw[h x hx];simp)
structure Cut(k:List Int)(X Y:ay):Prop where
 lo:∀ x∈X,Lt x.1 k
 hi:∀ y∈Y,Lt k y.1
theorem Cut.nx{X Y:ay}(h:Cut k X Y):∀ x∈X,¬ x.1=k:=fun x hx e=>by have:=h.lo x hx;rw[e] at this;exact lt_irrefl _ this
theorem Cut.ny{X Y:ay}(h:Cut k X Y):∀ x∈Y,¬ x.1=k:=fun x hx e=>by have:=h.hi x hx;rw[e] at this;exact lt_irrefl _ this
theorem CB{X:ay}(h:∀ x∈X,¬ x.1=k):look X k=none:=by
 unfold look;rw[List.find?_eq_none.2 (fun x hx=>by simp[h x hx])];rfl
theorem sl{X Y:ay}(h:∀ x∈X,¬ x.1=k):look (X ++ Y) k=look Y k:=by
 unfold look;rw[List.find?_append,List.find?_eq_none.2 (fun x hx=>by simp[h x hx])];simp
theorem Cut.rX{X Y:ay}(h:Cut k X Y):look (X ++ Y) k=none:=by rw[sl h.nx,CB h.ny]
theorem Cut.oB{X Y:ay}(h:Cut k X Y):look (X ++ (k,x) :: Y) k=some x:=by
 rw[sl h.nx];simp[look]
theorem Cut.uO{X Y:ay}(h:Cut k X Y):put (X ++ Y) k v=X ++ (k,v) :: Y:=by
 unfold put;rw[List.filter_append,List.filter_append,db (l:=X) (fun x hx=>decide_eq_true (h.lo x hx)),dX (l:=Y) (fun x hx=>decide_eq_false (h.hi x hx).not),dX (l:=X) (fun x hx=>decide_eq_false (h.lo x hx).not),db (l:=Y) (fun x hx=>decide_eq_true (h.hi x hx))];simp
theorem Cut.tU{X Y:ay}(h:Cut k X Y):put (X ++ (k,x) :: Y) k v=X ++ (k,v) :: Y:=by
 unfold put;rw[List.filter_append,List.filter_append,db (l:=X) (fun x hx=>decide_eq_true (h.lo x hx)),dX (l:=X) (fun x hx=>decide_eq_false (h.lo x hx).not),List.filter_cons,List.filter_cons,dX (l:=Y) (fun x hx=>decide_eq_false (h.hi x hx).not),db (l:=Y) (fun x hx=>decide_eq_true (h.hi x hx)),decide_eq_false (lt_irrefl k)];simp
theorem Cut.xc{X Y:ay}(h:Cut k X Y):rem (X ++ Y) k=X ++ Y:=by
 unfold rem;rw[List.filter_append,db (l:=X) (fun x hx=>decide_eq_true (h.nx x hx)),db (l:=Y) (fun x hx=>decide_eq_true (h.ny x hx))]
theorem Cut.BC{X Y:ay}(h:Cut k X Y):rem (X ++ (k,x) :: Y) k=X ++ Y:=by
 unfold rem;rw[List.filter_append,db (l:=X) (fun x hx=>decide_eq_true (h.nx x hx)),List.filter_cons,db (l:=Y) (fun x hx=>decide_eq_true (h.ny x hx))];simp
theorem qH{X Y:ay}(h:cI (X ++ (k,x) :: Y)):Cut k X Y:=by
 unfold cI at h;rw[List.pairwise_append,List.pairwise_cons] at h;exact⟨fun a ha=>h.2.2 a ha (k,x) List.mem_cons_self,fun b hb=>h.2.1.1 b hb⟩
theorem cI.cut{E:ay}(h:cI E)(k:List Int):∃ X Y,Cut k X Y/\((E=X ++ Y/\look E k=none)\/∃ x,E=X ++ (k,x) :: Y/\look E k=some x):=by
 induction E with
 | nil=>exact⟨[],[],⟨fun _ h=>by simp at h,fun _ h=>by simp at h⟩,.inl ⟨rfl,rfl⟩⟩
 | cons a E ih =>
  have b:=h;unfold cI at b;rw[List.pairwise_cons] at b;rcases qk a.1 k with f | he | d
  ·obtain⟨X,Y,c,r⟩:=ih b.2
   have hc:Cut k (a :: X) Y:=⟨fun x hx=>by
    rcases List.mem_cons.1 hx with rfl | hx
    ·exact f
    ·exact c.lo x hx,c.hi⟩
   refine⟨a :: X,Y,hc,?_⟩;rcases r with⟨e,_⟩ | ⟨x,e,_⟩
   ·subst e;exact .inl ⟨rfl,hc.rX⟩
   ·subst e;exact .inr ⟨x,rfl,hc.oB⟩
  ·have hc:Cut k [] E:=⟨fun _ h=>by simp at h,fun y hy=>by rw[<- he];exact b.1 y hy⟩
   obtain⟨i,g⟩:=a;simp only at he;subst he;exact⟨[],E,hc,.inr ⟨g,rfl,hc.oB⟩⟩
  ·have hc:Cut k [] (a :: E):=⟨fun _ h=>by simp at h,fun y hy=>by
    rcases List.mem_cons.1 hy with rfl | hy
    ·exact d
    ·exact d.trans (b.1 y hy)⟩
   exact⟨[],a :: E,hc,.inl ⟨rfl,hc.rX⟩⟩
theorem rN{X Y:ay}(h:cI (X ++ Y))(c:Cut k X Y):cI (X ++ (k,v) :: Y):=by
 unfold cI at h ⊢;rw[List.pairwise_append] at h;rw[List.pairwise_append,List.pairwise_cons];refine⟨h.1,⟨fun y hy=>c.hi y hy,h.2.1⟩,fun x hx y hy=>?_⟩;rcases List.mem_cons.1 hy with rfl | hy
 ·exact c.lo x hx
 ·exact h.2.2 x hx y hy
theorem Ai{X Y:ay}(h:cI (X ++ (k,v) :: Y)):cI (X ++ Y):=by
 unfold cI at h ⊢;rw[List.pairwise_append,List.pairwise_cons] at h;rw[List.pairwise_append];exact⟨h.1,h.2.1.2,fun x hx y hy=>h.2.2 x hx y (List.mem_cons_of_mem _ hy)⟩
theorem cI.put{E:ay}(h:cI E)(k v:List Int):cI (put E k v):=by
 obtain⟨X,Y,c,⟨rfl,_⟩ | ⟨x,rfl,_⟩⟩:=h.cut k
 ·rw[c.uO];exact rN h c
 ·rw[c.tU];exact rN (Ai h) c
theorem cI.rem{E:ay}(h:cI E)(k:List Int):cI (rem E k):=List.Pairwise.filter _ h
abbrev Und:=List Int × Option (List Int)
def BI(E:ay)(u:Und):ay:=match u.2 with
 | none=>rem E u.1
 | some v=>put E u.1 v
theorem BD{E:ay}(h:cI E)(k v:List Int):BI (put E k v) (k,look E k)=E:=by
 obtain⟨X,Y,c,⟨rfl,e⟩ | ⟨x,rfl,e⟩⟩:=h.cut k
 ·rw[e,c.uO];exact c.BC
 ·rw[e,c.tU];exact c.tU
theorem Ad{E:ay}(h:cI E)(k:List Int):BI (rem E k) (k,look E k)=E:=by
 obtain⟨X,Y,c,⟨rfl,e⟩ | ⟨x,rfl,e⟩⟩:=h.cut k
 ·rw[e,c.xc];exact c.xc
 ·rw[e,c.BC];exact c.uO
def vU(U:List Und)(E:ay):ay:=U.foldr (fun u E=>BI E u) E
theorem uJ(U:List Und)(u:Und)(E:ay):vU (U ++ [u]) E=vU U (BI E u):=by simp[vU]
def kH:List (List Und)->List ay->ay->Prop
 | [],[],_=>True
 | U :: J,e :: W,E=>vU U E=e/\kH J W e
 | _,_,_=>False
theorem ia(h:j0 Q)(k v:List Int):(xL Q k v).flatten=put Q.flatten k v:=by
 cases hh:gl Q k
 ·obtain⟨X,Y,e1,e2,b,a⟩:=h.iw v hh;rw[e1,e2,Cut.uO ⟨b,a⟩]
 ·obtain⟨X,x,Y,e1,e2⟩:=h.vZ v hh;have c:=qH (by have:=h.flat;rw[e1] at this;exact this);rw[e1,e2,c.tU]
theorem jw(h:j0 Q)(k:List Int):gl Q k=(look Q.flatten k).isSome:=by
 cases hh:gl Q k
 ·obtain⟨X,Y,e1,_,b,a⟩:=h.iw [] hh;rw[e1,Cut.rX ⟨b,a⟩];rfl
 ·obtain⟨X,x,Y,e1,_⟩:=h.vZ [] hh;have c:=qH (by have:=h.flat;rw[e1] at this;exact this);rw[e1,c.oB];rfl
theorem il(h:j0 Q)(k:List Int):(tJ Q k).flatten=rem Q.flatten k:=by
 cases hh:gl Q k
 ·rw[xC hh];obtain⟨X,Y,e1,_,b,a⟩:=h.iw [] hh;rw[e1,Cut.xc ⟨b,a⟩]
 ·obtain⟨X,x,Y,e1,e2⟩:=h.Et hh;have c:=qH (by have:=h.flat;rw[e1] at this;exact this);rw[e1,e2,c.BC]
theorem D8(a:gl Q k=true):(k,xP Q k)∈Q.flatten:=by
 unfold gl thr at a;simp only[Bool.and_eq_true,Bool.not_eq_true',decide_eq_true_eq] at a;obtain⟨_,b⟩:=a;unfold xP;rw[List.getElem?_map] at b;obtain⟨x,hx,c⟩:=Option.map_eq_some_iff.1 b;rw[hx];simp only[Option.map_some,Option.getD_some];have hm:=List.mem_of_getElem? hx
 have d:x=(k,x.2):=by rw[<- c]
 rw[<- d];rw[List.getD_eq_getElem?_getD] at hm
 cases hq:Q[apl Q k]? with
 | none=>rw[hq] at hm;simp at hm
 | some p=>rw[hq] at hm;exact List.mem_flatten.2 ⟨p,List.mem_of_getElem? hq,hm⟩
theorem Cj(h:j0 Q)(k:List Int):(if gl Q k then xP Q k else [])=(look Q.flatten k).getD []:=by
 cases hh:gl Q k
 ·have:=jw h k;rw[hh] at this
  cases hl:look Q.flatten k with
  | none=>rfl
  | some x=>rw[hl] at this;cases this
 ·have hm:=D8 hh;obtain⟨X,Y,e⟩:=List.append_of_mem hm;have c:=qH (by have:=h.flat;rw[e] at this;exact this);rw[e,c.oB];rfl
theorem mj{E:ay}(h:look E k=some x):(k,x)∈E:=by
 unfold look at h;obtain⟨a,c,rfl⟩:=Option.map_eq_some_iff.1 h;have d:=List.mem_of_find?_eq_some c;have b:=List.find?_some c;simp only[decide_eq_true_eq] at b;rw[<- b];exact d
theorem dt{E:ay}(h:cI E)(k v:List Int):(put E k v).length<=E.length+1:=by
 obtain⟨X,Y,c,⟨rfl,_⟩ | ⟨x,rfl,_⟩⟩:=h.cut k
 ·rw[c.uO];simp;omega
 ·rw[c.tU];simp
theorem gk{E:ay}(k:List Int):(rem E k).length<=E.length:=List.length_filter_le _ _
end
end Kv
end
section
namespace Pg
open Go.RowKit Go.Lib
section
variable {L:List Pg}{N g b:Nat}{w w':World}{F D:Nat->Prop}{Q:List (List KV)}{P:List (List En)}{p:En->Prop}{kv:Value}{k:List Int}
structure Mp(w:World)(F D:Nat->Prop)(g:Nat)(Q:List (List KV))(N:Nat):Prop where
 ex:∃ L,abs (ens L)=Q/\bO w F D g L/\Ord (ens L)/\Shq (ens L)/\(ens L).flatten.length<=N/\∀ es∈ens L,∀ e∈es,e.kl.length<=1000000000/\e.vl.length<=1000000000
theorem vC:∀ {P:List (List En)},(∀ es∈P,1<=es.length)->P.length<=P.flatten.length
 | [],_=>Nat.le_refl _
 | a :: P,h=>by
  have h1:=h a List.mem_cons_self;have b:=vC (P:=P) fun es he=>h es (List.mem_cons_of_mem _ he)
  simp only[List.flatten_cons,List.length_append,List.length_cons];omega
theorem Shq.few(h:Shq (ens L))(hN:(ens L).flatten.length<=N)(hb:N<=100000000):L.length<=100000000:=by
 have h1:=vC fun es he=>(h.one es he).1
 have h2:(ens L).length=L.length:=by simp[ens]
 omega
theorem Mp.lt(M:Mp w F D g Q N)(hb:F b):b < w.heap.size:=by
 obtain⟨L,_,A,_⟩:=M.ex;exact A.lt hb
theorem Mp.noU(M:Mp w F D g Q N)(hb:F b)(cs:List Value):¬ Blk w b cs 5:=by
 obtain⟨L,_,A,_⟩:=M.ex;exact A.noU hb cs
theorem Mp.keep(M:Mp w F D g Q N)(hb:Below w.heap.size w w'):Mp w' F D g Q N:=by
 obtain⟨L,e,A,r⟩:=M.ex;exact⟨L,e,A.keep hb,r⟩
theorem Mp.same(M:Mp w F D g Q N)(c:∀ b,F b->w'.heap[b]?=w.heap[b]?)(a:∀ b,b < w.heap.size->D b->(∃ cs,Blk w b cs 5)->w'.heap[b]?=w.heap[b]?):Mp w' F D g Q N:=by
 obtain⟨L,e,A,r⟩:=M.ex;exact⟨L,e,A.same c a,r⟩
theorem Mp.chg{F':Nat->Prop}(M:Mp w F D g Q N)(hc:Chg F' w w')(h1:∀ b,F' b->¬ F b)(h2:∀ b,F' b->∀ cs,¬ Blk w b cs 5):Mp w' F D g Q N:=by
 obtain⟨L,e,A,r⟩:=M.ex;exact⟨L,e,A.chg hc h1 h2,r⟩
theorem Mp.mono{D':Nat->Prop}(M:Mp w F D g Q N)(hD:∀ b,b < w.heap.size->D b->D' b):Mp w F D' g Q N:=by
 obtain⟨L,e,A,r⟩:=M.ex;exact⟨L,e,A.mono hD,r⟩
theorem Mp.more{N':Nat}(M:Mp w F D g Q N)(h:N<=N'):Mp w F D g Q N':=by
 obtain⟨L,e,A,O,S,n,r⟩:=M.ex;exact⟨L,e,A,O,S,by omega,r⟩
theorem Mp.ord(M:Mp w F D g Q N):j0 Q:=by
 obtain⟨L,e,A,O,_⟩:=M.ex;exact⟨_,e,O⟩
theorem Mp.len(M:Mp w F D g Q N):Q.flatten.length<=N:=by
 obtain⟨L,rfl,A,O,S,n,r⟩:=M.ex;rw[dn,List.length_map];exact n
theorem Mp.small(M:Mp w F D g Q N):∀ x∈Q.flatten,x.1.length<=1000000000/\x.2.length<=1000000000:=by
 obtain⟨L,rfl,A,O,S,n,r⟩:=M.ex;intro x hx;rw[dn] at hx;obtain⟨e,he,rfl⟩:=List.mem_map.1 hx;obtain⟨es,b,a⟩:=List.mem_flatten.1 he;exact r es b e a
theorem nK:(∀ es∈P,∀ e∈es,p e)<->∀ e∈P.flatten,p e :=
 ⟨fun h e he=>by obtain⟨es,h1,h2⟩:=List.mem_flatten.1 he;exact h es h1 e h2,fun h es he e hee=>h e (List.mem_flatten.2 ⟨es,he,hee⟩)⟩
theorem mnew:Calls Tryz.prog 31 #[] w fun e w'=>e=.returned (.pointer (some ⟨w.heap.size,0,none⟩))/\Mp w' (· = w.heap.size) (fun _=>False) w.heap.size [] 0/\Below w.heap.size w w' :=
 CI.mono fun e w' ⟨g,he,a,A,B⟩=>by
  subst a;exact⟨he,⟨[],rfl,A,⟨fun _ h=>by simp[ens] at h,List.Pairwise.nil⟩,Shq.nil,Nat.le_refl _,fun _ h=>by simp[ens] at h⟩,B⟩
theorem mset{vv:Value}{v:List Int}(M:Mp w F D g Q N)(i:By w kv k)(f:By w vv v)(a:k.length<=1000000000)(c:v.length<=1000000000)(l:N<=100000000) :
  Calls Tryz.prog 84 #[.pointer (some ⟨g,0,none⟩),kv,vv] w fun e w'=>e=.returned (.bool (!gl Q k))/\∃ F',Mp w' F' (fun b=>D b\/w.heap.size<=b) g (xL Q k v) (N+1)/\(∀ b,F' b->F b\/w.heap.size<=b)/\Chg F w w':=by
 obtain⟨L,rfl,A,O,S,n,r⟩:=M.ex;refine(CU A O (fun es he=>(S.one es he).2) (S.few n l) i f a c).mono fun e w' ⟨he,F',d,nk,nv,e1,j,hF,hc⟩=>?_
 refine⟨by rw[fS];exact he,F',⟨d,by rw[e1,rn],j,by rw[e1];exact O.set _,by rw[e1];exact S.set O _,?_,?_⟩,hF,hc⟩
 ·rw[e1,DJ O];split<;>omega
 ·rw[e1];rw[nK] at r ⊢;intro x hx
  cases hh:has (ens L) k
  ·obtain⟨X,Y,e2,e3,_⟩:=fT O (e:=⟨nk,k,nv,v⟩) hh;rw[e3] at hx;rw[e2] at r;rcases List.mem_append.1 hx with h | h
   ·exact r x (List.mem_append_left _ h)
   ·rcases List.mem_cons.1 h with h | h
    ·subst h;exact⟨a,c⟩
    ·exact r x (List.mem_append_right _ h)
  ·obtain⟨X,y,Y,e2,hy,e3⟩:=gi O (e:=⟨nk,k,nv,v⟩) hh;rw[e3] at hx;rw[e2] at r;rcases List.mem_append.1 hx with h | h
   ·exact r x (List.mem_append_left _ h)
   ·rcases List.mem_cons.1 h with h | h
    ·subst h;exact⟨by simp only;rw[hy];exact a,c⟩
    ·exact r x (List.mem_append_right _ (List.mem_cons_of_mem _ h))
theorem mdel(M:Mp w F D g Q N)(c:By w kv k)(f:N<=100000000) :
  Calls Tryz.prog 155 #[.pointer (some ⟨g,0,none⟩),kv] w fun e w'=>e=.returned (.bool (gl Q k))/\∃ F',Mp w' F' D g (tJ Q k) N/\(∀ b,F' b->F b\/w.heap.size<=b)/\Chg F w w':=by
 obtain⟨L,rfl,A,O,S,n,r⟩:=M.ex;refine(ue A O (fun es he=>(S.one es he).2) (S.few n f) c).mono fun e w' ⟨he,F',a,e1,d,hF,hc⟩=>?_
 refine⟨by rw[fS];exact he,F',⟨a,by rw[e1,vF],d,by rw[e1];exact O.del _,by rw[e1];exact S.del O _,?_,?_⟩,hF,hc⟩
 ·rw[e1]
  cases hh:has (ens L) k
  ·rw[sn hh];exact n
  ·obtain⟨X,x,Y,e2,_,e3⟩:=nR O hh;rw[e2] at n;rw[e3];simp only[List.length_append,List.length_cons] at n ⊢;omega
 ·rw[e1];rw[nK] at r ⊢;intro x hx
  cases hh:has (ens L) k
  ·rw[sn hh] at hx;exact r x hx
  ·obtain⟨X,y,Y,e2,_,e3⟩:=nR O hh;rw[e3] at hx;rw[e2] at r;rcases List.mem_append.1 hx with h | h
   ·exact r x (List.mem_append_left _ h)
   ·exact r x (List.mem_append_right _ (List.mem_cons_of_mem _ h))
theorem mget(M:Mp w F D g Q N)(c:By w kv k)(b:N<=100000000) :
  Calls Tryz.prog 115 #[.pointer (some ⟨g,0,none⟩),kv] w fun e w'=>∃ v,e=.returned (.tuple #[v,.bool (gl Q k)])/\OB w' (w.heap.size <= ·) v (if gl Q k then xP Q k else [])/\Below w.heap.size w w':=by
 obtain⟨L,rfl,A,O,S,n,r⟩:=M.ex;rw[fS,Dj];exact Co A O (fun es he=>by have:=(S.one es he).2;omega) (S.few n b) c fun p a e he=>(r p.es (List.mem_map.2 ⟨p,a,rfl⟩) e he).2
end
end Pg
end
section
namespace Kv
open Go.RowKit Go.Lib Pg
section
variable {V D V' D' K:Nat->Prop}{w w':World}{v c jv:Value}{l:List Int}{g b n N:Nat}{cs cs':List Value}{oj:Option Nat}{E:ay}{W:List ay}
theorem KF:Kd Tryz.prog 268 1 1 8 .nilFunc:=⟨by kernel_rfl,by kernel_rfl,rfl,by simp[Value.cells,Value.oneCell'],by decide⟩
structure nU(w:World)(V D:Nat→Prop)(g:Nat)(u:Und)(c:Value):Prop where
  short:u.1.length≤1000000000∧∀ x,u.2=some x→x.length≤1000000000
  ex:∃ s1 s2 kv,V s1∧V s2∧Blk w s1 [.pointer (some ⟨g,0,none⟩)] 27∧Blk w s2 [kv] 36∧OB w D kv u.1 ∧
    ((u.2 = none ∧ c = .func (.func 176) #[] #[.pointer (some ⟨s1, 0, none⟩), .pointer (some ⟨s2, 0, none⟩)]) ∨
     ∃ s3 vv x,V s3∧Blk w s3 [vv] 36∧OB w D vv x∧u.2=some x∧c=.func (.func 177) #[] #[.pointer (some ⟨s1,0,none⟩),.pointer (some ⟨s2,0,none⟩),.pointer (some ⟨s3,0,none⟩)])
structure lF(V D:Nat->Prop)(w w':World):Prop where
 var:∀ b cs t,V b->Blk w b cs t->(t=27\/t=36)->w'.heap[b]?=w.heap[b]?
 byt:∀ b,b < w.heap.size->D b->(∃ cs,Blk w b cs 5)->w'.heap[b]?=w.heap[b]?
theorem lF.ob(h:lF V D w w')(O:OB w D v l):OB w' D v l :=
 ⟨O.oct,O.ex.imp id (by
  rintro⟨b,c,e,hd,hR⟩
  exact⟨b,c,e,hd,hR.same (h.byt b hR.lt hd hR.kind)⟩)⟩
theorem nU.stay{u:Und}(h:nU w V D g u c)(a:lF V D w w'):nU w' V D g u c:=by
 obtain⟨s1,s2,kv,v1,v2,b,f,ok,r⟩:=h.ex;refine⟨h.short,s1,s2,kv,v1,v2,b.same (a.var _ _ _ v1 b (.inl rfl)),f.same (a.var _ _ _ v2 f (.inr rfl)),a.ob ok,r.imp id ?_⟩;rintro⟨s3,vv,x,d,i,j,e⟩;exact⟨s3,vv,x,d,i.same (a.var _ _ _ d i (.inr rfl)),a.ob j,e⟩
theorem nU.mono{u:Und}(h:nU w V D g u c)(a:∀ b,V b->V' b)(d:∀ b,b < w.heap.size->D b->D' b):nU w V' D' g u c:=by
 obtain⟨s1,s2,kv,v1,v2,f,j,ok,r⟩:=h.ex;refine⟨h.short,s1,s2,kv,a _ v1,a _ v2,f,j,ok.mono d,r.imp id ?_⟩;rintro⟨s3,vv,x,i,l,k,e⟩;exact⟨s3,vv,x,a _ i,l,k.mono d,e⟩
theorem nU.one{u:Und}(h:nU w V D g u c):c.oneCell'=true:=by
 obtain⟨s1,s2,kv,v1,v2,b1,b2,ok,⟨_,rfl⟩ | ⟨s3,vv,x,v3,b3,ov,_,rfl⟩⟩:=h.ex<;>rfl
def iz(w:World)(V D:Nat->Prop)(g:Nat)(U:List Und)(cs:List Value):Prop:=cs.length=U.length/\∀ (i:Nat) u c,U[i]?=some u->cs[i]?=some c->nU w V D g u c
theorem iz.stay{U:List Und}(h:iz w V D g U cs)(hs:lF V D w w'):iz w' V D g U cs:=⟨h.1,fun i u c hu hc=>(h.2 i u c hu hc).stay hs⟩
theorem iz.mono{U:List Und}(h:iz w V D g U cs)(hV:∀ b,V b->V' b)(hD:∀ b,b < w.heap.size->D b->D' b):iz w V' D' g U cs:=⟨h.1,fun i u c hu hc=>(h.2 i u c hu hc).mono hV hD⟩
theorem iz.app{U a:List Und}(h:iz w V D g U cs)(b:iz w V D g a cs'):iz w V D g (U ++ a) (cs ++ cs'):=by
 refine⟨by rw[List.length_append,List.length_append,h.1,b.1],fun i u c hu hc=>?_⟩;by_cases hi:i < U.length
 ·rw[List.getElem?_append_left hi] at hu;rw[List.getElem?_append_left (by rw[h.1];exact hi)] at hc;exact h.2 i u c hu hc
 ·rw[List.getElem?_append_right (by omega)] at hu;rw[List.getElem?_append_right (by rw[h.1];omega),h.1] at hc;exact b.2 _ u c hu hc
theorem iz.one{U:List Und}(h:iz w V D g U cs):∀ c∈cs,c.oneCell'=true:=fun c hc=>by
 obtain⟨i,hi⟩:=List.getElem?_of_mem hc;have a:=(List.getElem?_eq_some_iff.1 hi).1;exact(h.2 i (U[i]'(by rw[<- h.1];exact a)) c (List.getElem?_eq_getElem _) hi).one
structure Jr where
 U:List Und
 v:Value
 o:Option Nat
def JrA(w:World)(V D:Nat->Prop)(g:Nat)(j:Jr):Prop:=∃ cs,iz w V D g j.U cs/\((j.o=none/\j.v=.slice none 0 0/\j.U=[])\/∃ b c,j.o=some b/\j.v=.slice (some ⟨b,0,none⟩) j.U.length c/\Rw w 1 1 b j.U.length c cs)
theorem JrA.stay{j:Jr}(h:JrA w V D g j)(d:lF V D w w')(a:∀ b,j.o=some b->w'.heap[b]?=w.heap[b]?):JrA w' V D g j:=by
 obtain⟨cs,hc,r⟩:=h;refine⟨cs,hc.stay d,r.imp id ?_⟩;rintro⟨b,c,e1,e2,e⟩;exact⟨b,c,e1,e2,e.same (a b e1)⟩
theorem JrA.mono{j:Jr}(h:JrA w V D g j)(hV:∀ b,V b->V' b)(hD:∀ b,b < w.heap.size->D b->D' b):JrA w V' D' g j:=by
 obtain⟨cs,hc,r⟩:=h;exact⟨cs,hc.mono hV hD,r⟩
theorem JrA.kind{j:Jr}(h:JrA w V D g j)(hb:j.o=some b):∃ cs,Blk w b cs 1:=by
 obtain⟨cs,hc,⟨e,_⟩ | ⟨b',c,e,_,hR⟩⟩:=h
 ·rw[hb] at e;cases e
 ·rw[hb] at e;cases e;exact hR.kind
structure JnA(w:World)(V D:Nat->Prop)(g:Nat)(jv:Value)(T:List Jr)(oj:Option Nat):Prop where
 row:(oj=none/\jv=.slice none 0 0/\T=[])\/∃ b c,oj=some b/\jv=.slice (some ⟨b,0,none⟩) T.length c/\Rw w 271 1 b T.length c (T.map Jr.v)
 each:∀ j∈T,JrA w V D g j
 apart:(T.filterMap Jr.o).Nodup
theorem JnA.stay{T:List Jr}(h:JnA w V D g jv T oj)(e:lF V D w w')(d:∀ b,oj=some b->w'.heap[b]?=w.heap[b]?)(hb:∀ j∈T,∀ b,j.o=some b->w'.heap[b]?=w.heap[b]?):JnA w' V D g jv T oj :=
 ⟨h.row.imp id (by rintro⟨b,c,e1,e2,f⟩;exact⟨b,c,e1,e2,f.same (d b e1)⟩),fun j a=>(h.each j a).stay e (hb j a),h.apart⟩
theorem JnA.mono{T:List Jr}(h:JnA w V D g jv T oj)(hV:∀ b,V b->V' b)(hD:∀ b,b < w.heap.size->D b->D' b):JnA w V' D' g jv T oj :=
 ⟨h.row,fun j hj=>(h.each j hj).mono hV hD,h.apart⟩
theorem JnA.kind{T:List Jr}(h:JnA w V D g jv T oj)(hb:oj=some b):∃ cs,Blk w b cs 271:=by
 rcases h.row with⟨e,_⟩ | ⟨b',c,e,_,hR⟩
 ·rw[hb] at e;cases e
 ·rw[hb] at e;cases e;exact hR.kind
def tot(T:List Jr):Nat:=(T.map fun j=>j.U.length).sum
structure Own(w:World)(K F V:Nat->Prop)(g:Nat)(T:List Jr)(oj:Option Nat):Prop where
 top:K g
 map:∀ b,F b->K b
 var:∀ b,V b->K b
 jrn:∀ b,oj=some b->K b
 bck:∀ j∈T,∀ b,j.o=some b->K b
 kind:∀ b,K b->∃ cs t,Blk w b cs t/\t≠5
 qv:¬ F g
 tO:∀ b,V b->¬ F b
 rI:∀ b,oj=some b->¬ F b
 oh:∀ j∈T,∀ b,j.o=some b->¬ F b
 vk:∀ b,V b->∃ cs t,Blk w b cs t/\(t=27\/t=36)
structure SA(w:World)(K D:Nat->Prop)(g:Nat)(E:ay)(W:List ay)(n N:Nat):Prop where
 ex:∃ F V m Q jv T oj,Blk w g [.pointer (some ⟨m,0,none⟩),jv,.int .i64 n] 85/\Mp w F D m Q N/\Q.flatten=E/\JnA w V D g jv T oj/\kH (T.reverse.map Jr.U) W E/\tot T+E.length<=N/\T.length<=16/\Own w K F V g T oj
theorem SA.lt(h:SA w K D g E W n N)(hb:K b):b < w.heap.size:=by
 obtain⟨F,V,m,Q,jv,T,oj,_,_,_,_,_,_,_,O⟩:=h.ex;obtain⟨cs,t,h,_⟩:=O.kind b hb;exact h.lt
theorem SA.noU(h:SA w K D g E W n N)(hb:K b)(cs:List Value):¬ Blk w b cs 5:=fun k=>by
 obtain⟨F,V,m,Q,jv,T,oj,_,_,_,_,_,_,_,O⟩:=h.ex;obtain⟨cs',t,hk,ht⟩:=O.kind b hb;exact ht (hk.eq k).2
theorem SA.top(h:SA w K D g E W n N):K g:=by
 obtain⟨F,V,m,Q,jv,T,oj,_,_,_,_,_,_,_,O⟩:=h.ex;exact O.top
theorem Own.same{F:Nat->Prop}{T:List Jr}(O:Own w K F V g T oj)(e:∀ b,K b->w'.heap[b]?=w.heap[b]?):Own w' K F V g T oj :=
 ⟨O.top,O.map,O.var,O.jrn,O.bck,fun b hb=>by
  obtain⟨cs,t,a,c⟩:=O.kind b hb;exact⟨cs,t,a.same (e b hb),c⟩,O.qv,O.tO,O.rI,O.oh,fun b d=>by
  obtain⟨cs,t,a,c⟩:=O.vk b d
  exact⟨cs,t,a.same (e b (O.var b d)),c⟩⟩
theorem SA.same(h:SA w K D g E W n N)(a:∀ b,K b->w'.heap[b]?=w.heap[b]?)(d:∀ b,b < w.heap.size->D b->(∃ cs,Blk w b cs 5)->w'.heap[b]?=w.heap[b]?):SA w' K D g E W n N:=by
 obtain⟨F,V,m,Q,k,T,r,hb,hm,he,p,i,f,l,O⟩:=h.ex
 have o:lF V D w w':=⟨fun b _ _ q _ _=>a b (O.var b q),d⟩
 exact⟨F,V,m,Q,k,T,r,hb.same (a g O.top),hm.same (fun b hF=>a b (O.map b hF)) d,he,p.stay o (fun b e=>a b (O.jrn b e)) (fun j c b e=>a b (O.bck j c b e)),i,f,l,O.same a⟩
theorem SA.keep(h:SA w K D g E W n N)(hb:Below w.heap.size w w'):SA w' K D g E W n N:=h.same (fun b hK=>hb.block b (h.lt hK)) (fun b hl _ _=>hb.block b hl)
theorem SA.chg{a:Nat->Prop}(h:SA w K D g E W n N)(hc:Chg a w w')(j:∀ b,a b->¬ K b)(e:∀ b,a b->∀ cs,¬ Blk w b cs 5):SA w' K D g E W n N :=
 h.same (fun b c=>hc.same b (h.lt c) fun f=>j b f c) (fun b d _ i=>hc.same b d fun f=>by obtain⟨cs,k⟩:=i;exact e b f cs k)
theorem SA.mono(h:SA w K D g E W n N)(a:∀ b,b < w.heap.size->D b->D' b):SA w K D' g E W n N:=by
 obtain⟨F,V,m,Q,i,T,j,hb,hm,he,f,e,d,c,O⟩:=h.ex;exact⟨F,V,m,Q,i,T,j,hb,hm.mono a,he,f.mono (fun _ h=>h) a,e,d,c,O⟩
theorem SA.more{N':Nat}(h:SA w K D g E W n N)(a:N<=N'):SA w K D g E W n N':=by
 obtain⟨F,V,m,Q,f,T,i,hb,hm,he,e,d,c,b,O⟩:=h.ex;exact⟨F,V,m,Q,f,T,i,hb,hm.more a,he,e,d,Nat.le_trans c a,b,O⟩
theorem SA.size(h:SA w K D g E W n N):E.length<=N:=by
 obtain⟨F,V,m,Q,jv,T,oj,hb,hm,rfl,_⟩:=h.ex;exact hm.len
theorem SA.small(h:SA w K D g E W n N):∀ x∈E,x.1.length<=1000000000/\x.2.length<=1000000000:=by
 obtain⟨F,V,m,Q,jv,T,oj,hb,hm,rfl,_⟩:=h.ex;exact hm.small
end
end Kv
end
section
namespace Kv
open Go.RowKit Go.Lib Pg
attribute [local go_sem] Oper.semAt_some
section
variable {w w':World}{K D F V:Nat->Prop}{g n N m:Nat}{E:ay}{W:List ay}{Q:List (List KV)}{jv kv:Value}{T:List Jr}{oj:Option Nat}{x:Int}{cs:List Value}{ao:Option Addr}{k:List Int}
structure SX(w:World)(K D F V:Nat->Prop)(g m:Nat)(Q:List (List KV))(jv:Value)(T:List Jr)(oj:Option Nat)(n N:Nat):Prop where
 blk:Blk w g [.pointer (some ⟨m,0,none⟩),jv,.int .i64 n] 85
 map:Mp w F D m Q N
 jn:JnA w V D g jv T oj
 tot:tot T+Q.flatten.length<=N
 len:T.length<=16
 own:Own w K F V g T oj
theorem SA.open(h:SA w K D g E W n N):∃ F V m Q jv T oj,SX w K D F V g m Q jv T oj n N/\Q.flatten=E/\kH (T.reverse.map Jr.U) W E:=by
 obtain⟨F,V,m,Q,jv,T,oj,hb,hm,he,d,c,b,a,O⟩:=h.ex;exact⟨F,V,m,Q,jv,T,oj,⟨hb,hm,d,by rw[he];exact b,a,O⟩,he,c⟩
theorem SX.shut(h:SX w K D F V g m Q jv T oj n N)(he:Q.flatten=E)(a:kH (T.reverse.map Jr.U) W E):SA w K D g E W n N :=
 ⟨F,V,m,Q,jv,T,oj,h.blk,h.map,he,h.jn,a,by have:=h.tot;rw[he] at this;exact this,h.len,h.own⟩
theorem lI{x:Nat}{t:TypeId}(hx:Blk w x cs t)(j:t≠27)(f:t≠36)(h:t≠5)(hc:Chg (·=x) w w'):lF V D w w' :=
 ⟨fun b a l _ hb g=>hc.same b hb.lt (fun e=>by
  have c:b=x:=e;subst c;have:=(hx.eq hb).2;subst this;exact g.elim j f),fun b d _ i=>hc.same b d (fun e=>by
  have c:b=x:=e;subst c;obtain⟨a,k⟩:=i
  exact h (hx.eq k).2)⟩
theorem Own.chg1{x:Nat}(O:Own w K F V g T oj)(j:lF V D w w')(hc:Chg (·=x) w w'){t:TypeId}(hx:Blk w' x cs t)(a:t≠5):Own w' K F V g T oj :=
 ⟨O.top,O.map,O.var,O.jrn,O.bck,fun b hb=>by
  by_cases e:b=x
  ·subst e;exact⟨cs,t,hx,a⟩
  ·obtain⟨f,i,c,d⟩:=O.kind b hb;exact⟨f,i,c.chg hc e,d⟩,O.qv,O.tO,O.rI,O.oh,fun b h=>by
  obtain⟨cs,t,c,a⟩:=O.vk b h
  exact⟨cs,t,c.same (j.var b cs t h c a),a⟩⟩
theorem SX.top{d:Nat}(h:SX w K D F V g m Q jv T oj n N)(hc:Chg (·=g) w w')(hb:Blk w' g [.pointer (some ⟨m,0,none⟩),jv,.int .i64 d] 85):SX w' K D F V g m Q jv T oj d N :=
 ⟨hb,h.map.chg hc (fun b e hF=>h.own.qv (by have c:b=g:=e; exact c▸hF)) (fun b e cs k=>by
   have c:b=g:=e;subst c
   exact absurd (h.blk.eq k).2 (by decide)),h.jn.stay (lI h.blk (by decide) (by decide) (by decide) hc)
   (fun b e=>by
    obtain⟨cs,k⟩:=h.jn.kind e
    exact hc.same b k.lt (fun c=>by
     have a:b=g:=c;subst a
     exact absurd (h.blk.eq k).2 (by decide)))
   (fun j f b e=>by
    obtain⟨cs,k⟩:=(h.jn.each j f).kind e
    exact hc.same b k.lt (fun c=>by
     have a:b=g:=c;subst a
     exact absurd (h.blk.eq k).2 (by decide))),h.tot,h.len,h.own.chg1 (lI (D:=D) h.blk (by decide) (by decide) (by decide) hc) hc hb (by decide)⟩
theorem SX.keep(h:SX w K D F V g m Q jv T oj n N)(hb:Below w.heap.size w w'):SX w' K D F V g m Q jv T oj n N:=by
 have a:∀ b,K b->w'.heap[b]? = w.heap[b]? := fun b f=>by
  obtain⟨cs,t,k,_⟩:=h.own.kind b f;exact hb.block b k.lt
 exact⟨h.blk.keep hb,h.map.keep hb,h.jn.stay ⟨fun b _ _ _ k _=>hb.block b k.lt,fun b c _ _=>hb.block b c⟩ (fun b e=>a b (h.own.jrn b e)) (fun j d b e=>a b (h.own.bck j d b e)),h.tot,h.len,h.own.same a⟩
theorem uN{a:Addr}(hc:w.cell? a=some (.int .i64 x))(b:w.frozen? a=false)(c:0<=x)(d:x<=4000000000000000000) :
  (callFunc 175 #[.pointer (some a),.int .i64 1]).run Tryz.prog w=.ok (.value (.int .i64 (x+1))) (w.setCell a (.int .i64 (x+1))) :=
 run_call_add Tryz.func175 (by kernel_rfl) (by kernel_rfl) (by kernel_rfl) .i64 (by kernel_rfl) hc b (by
  have e:IntKind.i64.wrap (x+1)=x+1:=by rw[IntKind.wrap_i64];omega
  simp[Op.intArith,e])
theorem Ct(hc:w.cell? ⟨g,2,none⟩=some (.int .i64 x))(f:w.frozen? ⟨g,2,none⟩=false)(c:0<=x)(d:x<=4000000000000000000) :
  Calls Tryz.prog 126 #[.pointer (some ⟨g,2,none⟩),.int .i64 1] w fun e w'=>e=.returned (.int .i64 (x+1))/\w'=w.setCell ⟨g,2,none⟩ (.int .i64 (x+1)):=by
 have b:=uN hc f c d;go_enter Tryz.func126,Tryz.ntmps126;go_wp2_with (simp only[b]);go_ret;exact⟨rfl,rfl⟩
theorem kx(hc:w.cell? ⟨g,2,none⟩=some (.int .i64 x))(b:w.frozen? ⟨g,2,none⟩=false)(c:0<=x)(d:x<=4000000000000000000) :
  Calls Tryz.prog 82 #[.pointer (some ⟨g,0,none⟩)] w fun e w'=>e=.returned (.tuple #[])/\w'=w.setCell ⟨g,2,none⟩ (.int .i64 (x+1)):=by
 have u:=Ct hc b c d;clear hc b;go_enter Tryz.func82,Tryz.ntmps82;go_wp2_with (go_at_call 126;refine u.mono ?_;rintro e f ⟨rfl,rfl⟩);go_end0;exact⟨rfl,rfl⟩
theorem fZ(h:SX w K D F V g m Q jv T oj n N)(hn:n<=4000000000000000000) :
  Calls Tryz.prog 82 #[.pointer (some ⟨g,0,none⟩)] w fun e w'=>e=.returned (.tuple #[])/\SX w' K D F V g m Q jv T oj (n+1) N/\Chg (·=g) w w':=by
 refine(kx (h.blk.cell (i:=2) rfl) (h.blk.free 2) (by omega) (by omega)).mono ?_
 rintro e w' ⟨rfl,rfl⟩
 have hc:Chg (·=g) w (w.setCell ⟨g,2,none⟩ (.int .i64 ((n:Int)+1))):=(Chg.refl (·=g) w).cell (.inl rfl) _;refine⟨rfl,h.top hc ?_,hc⟩;have:=h.blk.setCell (i:=2) (.int .i64 ((n:Int)+1));exact this
theorem oF{c:Nat}{mv nv:Value}(h:Blk w g [mv,.slice ao n c,nv] 85) :
  Calls Tryz.prog 127 #[.pointer (some ⟨g,0,none⟩)] w fun e w'=>e=.returned (.int .i64 n)/\w'=w:=by
 have c1:=h.cell (i:=1) rfl;clear h;go_enter Tryz.func127,Tryz.ntmps127;go_wp2;go_ret;exact⟨rfl,rfl⟩
theorem JnA.shape(h:JnA w V D g jv T oj):∃ ao c,jv=.slice ao T.length c:=by
 rcases h.row with⟨_,e,rfl⟩ | ⟨b,c,_,e,_⟩
 ·exact⟨none,0,e⟩
 ·exact⟨_,c,e⟩
theorem zu(h:SX w K D F V g m Q jv T oj n N) :
  Calls Tryz.prog 127 #[.pointer (some ⟨g,0,none⟩)] w fun e w'=>e=.returned (.int .i64 T.length)/\w'=w:=by
 obtain⟨a,c,e⟩:=h.jn.shape;have hb:=h.blk;rw[e] at hb;exact oF hb
theorem snew:Calls Tryz.prog 6 #[] w fun e w'=>∃ g K,e=.returned (.pointer (some ⟨g,0,none⟩))/\SA w' K (fun _=>False) g [] [] 0 0/\(∀ b,K b->w.heap.size<=b)/\Below w.heap.size w w':=by
 have u:=mnew (w:=w);go_enter Tryz.func6,Tryz.ntmps6;go_wp2_with (go_at_call 31;refine u.mono ?_;rintro e c ⟨rfl,M,B⟩);go_ret;have d:=M.lt (b:=w.heap.size) rfl;have al:=af c (.cells #[.pointer (some ⟨w.heap.size,0,none⟩),.slice none 0 0,.int .i64 0] 85);have bl:=aj c [.pointer (some ⟨w.heap.size,0,none⟩),.slice none 0 0,.int .i64 0] 85;have M2:=M.keep al;refine⟨c.heap.size,fun b=>b=w.heap.size\/b=c.heap.size,rfl,⟨_,fun _=>False,_,_,_,[],none,bl,M2,rfl,⟨.inl ⟨rfl,rfl,rfl⟩,fun _ h=>by simp at h,List.nodup_nil⟩,trivial,by decide,by decide,?_⟩,fun b hb=>by have:=B.size;omega,ai B al⟩;refine⟨.inr rfl,fun b hb=>.inl hb,fun _ h=>h.elim,(fun _ h=>by cases h),(fun _ h=>by simp at h),fun b hb=>?_,(fun h=>by have f:c.heap.size=w.heap.size:=h;omega),fun _ h=>h.elim,(fun _ h=>by cases h),(fun _ h=>by simp at h),fun _ h=>h.elim⟩;rcases hb with rfl | rfl
 ·obtain⟨L,_,A,_⟩:=M2.ex;exact A.kind _ rfl
 ·exact⟨_,_,bl,by decide⟩
theorem mw(h:SX w K D F V g m Q jv T oj n N)(a:By w kv k)(b:N<=100000000) :
  Calls Tryz.prog 115 #[.pointer (some ⟨m,0,none⟩),kv] w fun e w'=>∃ v,e=.returned (.tuple #[v,.bool (look Q.flatten k).isSome])/\OB w' (w.heap.size <= ·) v ((look Q.flatten k).getD [])/\Below w.heap.size w w':=by
 have u:=mget h.map a b;rw[Cj h.map.ord,jw h.map.ord] at u;exact u
theorem tX(h:SX w K D F V g m Q jv T oj n N)(b:By w kv k)(d:N<=100000000) :
  Calls Tryz.prog 154 #[.pointer (some ⟨g,0,none⟩),kv] w fun e w'=>e=.returned (.bool (look Q.flatten k).isSome)/\Below w.heap.size w w':=by
 have c0:=h.blk.cell (i:=0) rfl;have u:=mw h b d;obtain⟨j,c,rfl,-⟩:=id b.ex;generalize (look Q.flatten k).isSome=r at *;generalize (look Q.flatten k).getD []=L at *;clear h b;go_enter Tryz.func154,Tryz.ntmps154;go_wp2_with (go_at_call 115;refine u.mono ?_;rintro e f ⟨v,rfl,O,B⟩;obtain⟨l,c1,rfl,-⟩:=id O.by.ex);go_ret;exact⟨rfl,B⟩
end
section
variable {w w':World}{K D F V D':Nat->Prop}{g m n N o:Nat}{Q Q':List (List KV)}{jv v u kv:Value}{T:List Jr}{oj:Option Nat}{ao:Option Addr}
theorem ah{p:Prop}(h:p):Hid p:=h
theorem SX.vars{S:Nat->Prop}(h:SX w K D F V g m Q jv T oj n N)(i:∀ b,S b->¬ F b)(a:∀ b,S b->∃ cs t,Blk w b cs t/\(t=27\/t=36))(c:∀ b,b < w.heap.size->D b->D' b) :
  SX w (fun b=>K b\/S b) D' F (fun b=>V b\/S b) g m Q jv T oj n N :=
 ⟨h.blk,h.map.mono c,h.jn.mono (fun _=>.inl) c,h.tot,h.len,.inl h.own.top,fun b hb=>.inl (h.own.map b hb),fun b hb=>hb.imp (h.own.var b) id,fun b hb=>.inl (h.own.jrn b hb),fun j f b hb=>.inl (h.own.bck j f b hb),fun b hb=>hb.elim (h.own.kind b) (fun d=>by
  obtain⟨cs,t,k,e⟩:=a b d
  exact⟨cs,t,k,by rcases e with e | e<;>subst e<;>decide⟩),h.own.qv,fun b hb=>hb.elim (h.own.tO b) (i b),h.own.rI,h.own.oh,fun b hb=>hb.elim (h.own.vk b) (a b)⟩
theorem SX.mapped{F':Nat->Prop}{N':Nat}(h:SX w K D F V g m Q jv T oj n N)(u:Kv.tot T+Q'.flatten.length<=N')(o:Mp w' F' D' m Q' N')(hF:∀ b,F' b->F b\/w.heap.size<=b)(r:∀ b,D b->D' b)(hc:Chg F w w') :
  SX w' (fun b=>(K b/\¬ F b)\/F' b) D' F' V g m Q' jv T oj n N':=by
 have l:∀ b,K b->b < w.heap.size:=fun b hb=>by obtain⟨cs,t,k,_⟩:=h.own.kind b hb;exact k.lt
 have no:∀ b,K b->¬ F b->¬ F' b:=fun b hb hn hf=>by
  rcases hF b hf with p | p
  ·exact hn p
  ·have:=l b hb;omega
 have q:lF V D w w':=⟨fun b _ _ d k _=>hc.same b k.lt (h.own.tO b d),fun b s _ k=>hc.same b s (fun f=>by obtain⟨cs,k⟩:=k;exact h.map.noU f cs k)⟩
 have a:JnA w' V D g jv T oj:=h.jn.stay q (fun b e=>hc.same b (l b (h.own.jrn b e)) (h.own.rI b e)) (fun j a b e=>hc.same b (l b (h.own.bck j a b e)) (h.own.oh j a b e))
 refine⟨h.blk.chg hc h.own.qv,o,a.mono (fun _ h=>h) (fun b _=>r b),u,h.len,.inl ⟨h.own.top,h.own.qv⟩,fun b=>.inr,fun b hb=>.inl ⟨h.own.var b hb,h.own.tO b hb⟩,fun b hb=>.inl ⟨h.own.jrn b hb,h.own.rI b hb⟩,fun j a b hb=>.inl ⟨h.own.bck j a b hb,h.own.oh j a b hb⟩,fun b hb => ?_,no g h.own.top h.own.qv,fun b hb=>no b (h.own.var b hb) (h.own.tO b hb),fun b hb=>no b (h.own.jrn b hb) (h.own.rI b hb),fun j a b hb=>no b (h.own.bck j a b hb) (h.own.oh j a b hb),fun b d=>by
  obtain⟨cs,t,k,c⟩:=h.own.vk b d
  exact⟨cs,t,k.same (q.var b cs t d k c),c⟩⟩
 have i:∀ b,F' b->∃ cs t,Blk w' b cs t/\t≠5:=fun b hf=>by
  obtain⟨L,_,A,_⟩:=o.ex;exact A.kind b hf
 rcases hb with⟨hb,hf⟩ | hb
 ·obtain⟨cs,t,k,c⟩:=h.own.kind b hb;exact⟨cs,t,k.chg hc hf,c⟩
 ·exact i b hb
theorem Fj(c:w.cell? ⟨g,o,none⟩=some v):(loadVar 27 ⟨g,o,none⟩).run Tryz.prog w=.ok v w:=by go_simp
theorem AZ(c:w.cell? ⟨g,o,none⟩=some v):(loadVar 76 ⟨g,o,none⟩).run Tryz.prog w=.ok v w:=by go_simp
theorem Fl(c:w.cell? ⟨g,o,none⟩=some v):(loadVar 36 ⟨g,o,none⟩).run Tryz.prog w=.ok v w:=by go_simp
theorem lT{a:Act}{o:Oper}(k q:Nat){c:Nat}(d:o.op=.store 36 (.tmp k) (.tmp q))(b:a.eval (.tmp k)=.pointer (some ⟨g,0,none⟩))(f:a.eval (.tmp q)=.slice ao n c)(hc:w.cell? ⟨g,0,none⟩=some u)(hf:w.frozen? ⟨g,0,none⟩=false) :
  (execOp a.eval o).run Tryz.prog w=.ok .skip (w.setCell ⟨g,0,none⟩ (.slice ao n c)):=by
 simp only[execOp,d,b,f];go_simp
def Rds(g m s1 s2:Nat)(jv:Value)(n:Int)(kv:Value)(w:World):Prop:=Blk w s1 [.pointer (some ⟨g,0,none⟩)] 27/\Blk w g [.pointer (some ⟨m,0,none⟩),jv,.int .i64 n] 85/\Blk w s2 [kv] 36
theorem Rds.keep{s1 s2:Nat}{n:Int}(h:Rds g m s1 s2 jv n kv w)(hb:Below w.heap.size w w'):Rds g m s1 s2 jv n kv w':=⟨h.1.keep hb,h.2.1.keep hb,h.2.2.keep hb⟩
end
section
variable {w:World}{D:Nat->Prop}{v:Value}{l:List Int}{cs:List Value}
theorem gU{w':World}{x:Nat}(hc:Chg (·=x) w w')(hx:Blk w x cs 36)(O:OB w D v l):OB w' D v l :=
 ⟨O.oct,O.ex.imp id (by
  rintro⟨b,c,e,d,a⟩;refine⟨b,c,e,d,a.chg hc (fun g=>?_)⟩
  have e2:b=x:=g;subst e2;obtain⟨f,k⟩:=a.kind
  exact absurd (hx.eq k).2 (by decide))⟩
def Rst(w:World)(g:Nat)(k L:List Int)(there:Bool)(e:Ending)(w':World):Prop:=∃ s1 s2 s3 v1 v3,e=.returned (.func (.func (if there then 177 else 176)) #[] (if there then #[.pointer (some ⟨s1,0,none⟩),.pointer (some ⟨s2,0,none⟩),.pointer (some ⟨s3,0,none⟩)] else #[.pointer (some ⟨s1,0,none⟩),.pointer (some ⟨s2,0,none⟩)])) ∧
      w.heap.size≤s1∧w.heap.size≤s2∧w.heap.size≤s3∧Blk w' s1 [.pointer (some ⟨g,0,none⟩)] 27∧Blk w' s2 [v1] 36∧Blk w' s3 [v3] 36∧OB w' (w.heap.size≤·) v1 k∧OB w' (w.heap.size≤·) v3 L∧Below w.heap.size w w'
theorem pR{g m:Nat}{jv kv:Value}{n:Int}{k L:List Int}{there:Bool}(W:Blk w g [.pointer (some ⟨m,0,none⟩),jv,.int .i64 n] 85)(hk:By w kv k)(V:k.length<=1000000000)(u:∀ w' kv',Below w.heap.size w w'->By w' kv' k->Calls Tryz.prog 115 #[.pointer (some ⟨m,0,none⟩),kv'] w' fun e w''=>∃ v,e=.returned (.tuple #[v,.bool there])/\OB w'' (w'.heap.size <= ·) v L/\Below w'.heap.size w' w'') :
  Calls Tryz.prog 129 #[.pointer (some ⟨g,0,none⟩),kv] w (Rst w g k L there):=by
 obtain⟨ao,c,rfl,-⟩:=id hk.ex;have Q:=aj w [.pointer (some ⟨g,0,none⟩)] 27;have al:=af w (.cells #[.pointer (some ⟨g,0,none⟩)] 27)
 have as1:(w.alloc (.cells #[.pointer (some ⟨g,0,none⟩)] 27)).heap.size=w.heap.size+1:=by simp
 have t1:=cH (hk.keep al) V;have P:=ah W;have M:=ah u;have glt:=W.lt;clear u W;generalize hln:k.length=A at *
 cases there
 ·go_enter Tryz.func129,Tryz.ntmps129;go_wp2_with (go_at_call 114;refine t1.mono ?_;rintro e z ⟨v1,rfl,r,H⟩;obtain⟨q,c1,rfl⟩:∃ q c1,v1=.slice q k.length c1:=(by obtain⟨q,c1,e,_⟩:=r.by.ex;exact⟨q,c1,e⟩));rw[hln] at r;have Y:=H.size;have E:=af z (.cells #[.slice q A c1] 36)
  have hS:Rds g m w.heap.size z.heap.size jv n (.slice q A c1) (z.alloc (.cells #[.slice q A c1] 36)).drew:=⟨((Q.keep H).keep E).drew,(((P.out.keep al).keep H).keep E).drew,(aj z [.slice q A c1] 36).drew⟩
  have J:Below w.heap.size w (z.alloc (.cells #[.slice q A c1] 36)).drew:=ai (ai (ai al H) E) ⟨rfl,rfl,rfl,Nat.le_refl _,fun _ _=>rfl⟩
  have U:z.heap.size < (z.alloc (.cells #[.slice q A c1] 36)).drew.heap.size:=by show _ < (z.alloc _).heap.size;simp
  replace r:=((r.mono (D':=(w.heap.size <= ·)) (fun b _ h=>by omega)).keep E).keep (w':=(z.alloc (.cells #[.slice q A c1] 36)).drew) ⟨rfl,rfl,rfl,Nat.le_refl _,fun _ _=>rfl⟩;clear t1 E Q al;clear H;refine bJ (S:=Rds g m w.heap.size z.heap.size jv n (.slice q A c1)) (by kernel_rfl) hS ?_
  generalize (z.alloc (.cells #[.slice q A c1] 36)).drew=X at *;refine aN 0 (some 11) (.pointer (some ⟨g,0,none⟩)) 27 2 w.heap.size 0 (by kernel_rfl) (by kernel_rfl) (by kernel_rfl) (fun w' h=>Fj (h.1.cell (i:=0) rfl)) i3 hS ?_
  refine ax 1 12 (.pointer (some ⟨g,0,none⟩)) (by kernel_rfl) (fun _ _=>by kernel_rfl) i3 hS ?_
  refine ax 2 13 (.pointer (some ⟨g,0,none⟩)) (by kernel_rfl) (fun _ _=>by kernel_rfl) i3 hS ?_
  refine aN 3 (some 14) (.pointer (some ⟨m,0,none⟩)) 76 13 g 0 (by kernel_rfl) (by kernel_rfl) (by kernel_rfl) (fun w' h=>AZ (h.2.1.cell (i:=0) rfl)) i3 hS ?_
  refine aN 4 (some 15) (.slice q A c1) 36 5 z.heap.size 0 (by kernel_rfl) (by kernel_rfl) (by kernel_rfl) (fun w' h=>Fl (h.2.2.cell (i:=0) rfl)) i3 hS ?_
  have G:=af X (.cells #[.slice none 0 0] 36);refine aB [5,9] (by kernel_rfl) (by simp) (vV 5 (some 16) 115 #[.pointer (some ⟨m,0,none⟩),.slice q A c1] (by kernel_rfl) (by kernel_rfl) (M.out _ _ J r.by) ?_ (aO 9 (some 6) (.pointer (some ⟨X.heap.size,0,none⟩)) (X.alloc (.cells #[.slice none 0 0] 36)) (by kernel_rfl) (by kernel_rfl) (hS.keep G) ?_ aL))
  ·rintro e' y ⟨O,rfl,D,C⟩;obtain⟨j,o,rfl⟩:∃ j o,O=.slice j L.length o:=(by obtain⟨j,o,e,_⟩:=D.by.ex;exact⟨j,o,e⟩)
   refine⟨_,rfl,hS.keep C,?_⟩;replace hS:=hS.keep C;replace r:=r.keep C;generalize L.length=s at *;refine ax 6 10 (.tuple #[.slice j s o,.bool false]) (by kernel_rfl) (fun _ _=>by kernel_rfl) i3 hS ?_
   refine ax 7 17 (.slice j s o) (by kernel_rfl) (fun _ _=>by kernel_rfl) i3 hS ?_
   refine ax 8 18 (.bool false) (by kernel_rfl) (fun _ _=>by kernel_rfl) i3 hS ?_
   have F:=ai J C;have hX3:=C.size;refine aB [9] (by kernel_rfl) (by simp) (aO 9 (some 6) (.pointer (some ⟨y.heap.size,0,none⟩)) (y.alloc (.cells #[.slice none 0 0] 36)) (by kernel_rfl) (by kernel_rfl) (hS.keep (af y _)) ?_ aL);have K:=af y (.cells #[.slice none 0 0] 36);replace hS:=hS.keep K;replace r:=r.keep K;replace D:=(D.mono (D':=(w.heap.size <= ·)) (fun b _ h=>by have T:X.heap.size<=b:=h;omega)).keep K;have t:=aj y [.slice none 0 0] 36;replace F:=ai F K;have l:=t.cell (i:=0) rfl;have f:=t.free 0
   have x:Chg (·=y.heap.size) (y.alloc (.cells #[.slice none 0 0] 36)) ((y.alloc (.cells #[.slice none 0 0] 36)).setCell ⟨y.heap.size,0,none⟩ (.slice j s o)):=(Chg.refl (·=y.heap.size) (y.alloc (.cells #[.slice none 0 0] 36))).cell (.inl rfl) _
   have p:Rds g m w.heap.size z.heap.size jv n (.slice q A c1) ((y.alloc (.cells #[.slice none 0 0] 36)).setCell ⟨y.heap.size,0,none⟩ (.slice j s o)):=⟨hS.1.chg x (by omega),hS.2.1.chg x (by omega),hS.2.2.chg x (by omega)⟩
   refine aB [10] (by kernel_rfl) (by simp) (cB 10 ((y.alloc (.cells #[.slice none 0 0] 36)).setCell ⟨y.heap.size,0,none⟩ (.slice j s o)) (by kernel_rfl) (lT 6 17 (by kernel_rfl) (by kernel_rfl) (by kernel_rfl) l f) p ?_ aL);refine ax 11 7 (.bool false) (by kernel_rfl) (fun _ _=>by kernel_rfl) i3 p ?_
   refine bh (by kernel_rfl) ?_
   simp only[Act.put,List.setIfInBounds_toArray,List.set_cons_zero,List.set_cons_succ];have d:=ah (And.intro (t.setCell (i:=0) (.slice j s o)) (And.intro (gU x t D) (And.intro (gU x t r) (And.intro p (F.trans (x.below (B:=w.heap.size) (fun b e=>by omega) F.size))))));have N:=ah (show w.heap.size<=y.heap.size by omega);clear l f x t D hS G r F p M J P;generalize (y.alloc (.cells #[.slice none 0 0] 36)).setCell ⟨y.heap.size,0,none⟩ (.slice j s o)=Z at *;go_wp2;go_ret;exact⟨_,_,_,_,_,rfl,Nat.le_refl _,by omega,N.out,d.out.2.2.2.1.1,d.out.2.2.2.1.2.2,d.out.1,d.out.2.2.1,d.out.2.1,d.out.2.2.2.2⟩
  ·replace hS:=hS.keep G;replace r:=r.keep G;have I:=ai J G;have t:=aj X [.slice none 0 0] 36
   have R:X.heap.size < (X.alloc (.cells #[.slice none 0 0] 36)).heap.size:=by simp
   refine bQ 5 (some 16) 115 #[.pointer (some ⟨m,0,none⟩),.slice q A c1] (by kernel_rfl) (by kernel_rfl) (M.out _ _ I r.by) ?_
   rintro e' y ⟨O,rfl,D,C⟩;obtain⟨j,o,rfl⟩:∃ j o,O=.slice j L.length o:=(by obtain⟨j,o,e,_⟩:=D.by.ex;exact⟨j,o,e⟩)
   refine⟨_,rfl,hS.keep C,?_⟩;replace hS:=hS.keep C;replace r:=r.keep C;generalize L.length=s at *;refine ax 6 10 (.tuple #[.slice j s o,.bool false]) (by kernel_rfl) (fun _ _=>by kernel_rfl) i3 hS ?_
   refine ax 7 17 (.slice j s o) (by kernel_rfl) (fun _ _=>by kernel_rfl) i3 hS ?_
   refine ax 8 18 (.bool false) (by kernel_rfl) (fun _ _=>by kernel_rfl) i3 hS ?_
   have F:=ai I C;replace t:=t.keep C;replace D:=D.mono (D':=(w.heap.size <= ·)) (fun b _ h=>by have T:(X.alloc (.cells #[.slice none 0 0] 36)).heap.size<=b:=h;omega);have l:=t.cell (i:=0) rfl;have f:=t.free 0
   have x:Chg (·=X.heap.size) (y) ((y).setCell ⟨X.heap.size,0,none⟩ (.slice j s o)):=(Chg.refl (·=X.heap.size) (y)).cell (.inl rfl) _
   have p:Rds g m w.heap.size z.heap.size jv n (.slice q A c1) ((y).setCell ⟨X.heap.size,0,none⟩ (.slice j s o)):=⟨hS.1.chg x (by omega),hS.2.1.chg x (by omega),hS.2.2.chg x (by omega)⟩
   refine aB [10] (by kernel_rfl) (by simp) (cB 10 ((y).setCell ⟨X.heap.size,0,none⟩ (.slice j s o)) (by kernel_rfl) (lT 6 17 (by kernel_rfl) (by kernel_rfl) (by kernel_rfl) l f) p ?_ aL);refine ax 11 7 (.bool false) (by kernel_rfl) (fun _ _=>by kernel_rfl) i3 p ?_
   refine bh (by kernel_rfl) ?_
   simp only[Act.put,List.setIfInBounds_toArray,List.set_cons_zero,List.set_cons_succ];have d:=ah (And.intro (t.setCell (i:=0) (.slice j s o)) (And.intro (gU x t D) (And.intro (gU x t r) (And.intro p (F.trans (x.below (B:=w.heap.size) (fun b e=>by omega) F.size))))));have N:=ah (show w.heap.size<=X.heap.size by omega);clear l f x t D hS G r F p M J P;generalize (y).setCell ⟨X.heap.size,0,none⟩ (.slice j s o)=Z at *;go_wp2;go_ret;exact⟨_,_,_,_,_,rfl,Nat.le_refl _,by omega,N.out,d.out.2.2.2.1.1,d.out.2.2.2.1.2.2,d.out.1,d.out.2.2.1,d.out.2.1,d.out.2.2.2.2⟩
 ·go_enter Tryz.func129,Tryz.ntmps129;go_wp2_with (go_at_call 114;refine t1.mono ?_;rintro e z ⟨v1,rfl,r,H⟩;obtain⟨q,c1,rfl⟩:∃ q c1,v1=.slice q k.length c1:=(by obtain⟨q,c1,e,_⟩:=r.by.ex;exact⟨q,c1,e⟩));rw[hln] at r;have Y:=H.size;have E:=af z (.cells #[.slice q A c1] 36)
  have hS:Rds g m w.heap.size z.heap.size jv n (.slice q A c1) (z.alloc (.cells #[.slice q A c1] 36)).drew:=⟨((Q.keep H).keep E).drew,(((P.out.keep al).keep H).keep E).drew,(aj z [.slice q A c1] 36).drew⟩
  have J:Below w.heap.size w (z.alloc (.cells #[.slice q A c1] 36)).drew:=ai (ai (ai al H) E) ⟨rfl,rfl,rfl,Nat.le_refl _,fun _ _=>rfl⟩
  have U:z.heap.size < (z.alloc (.cells #[.slice q A c1] 36)).drew.heap.size:=by show _ < (z.alloc _).heap.size;simp
  replace r:=((r.mono (D':=(w.heap.size <= ·)) (fun b _ h=>by omega)).keep E).keep (w':=(z.alloc (.cells #[.slice q A c1] 36)).drew) ⟨rfl,rfl,rfl,Nat.le_refl _,fun _ _=>rfl⟩;clear t1 E Q al;clear H;refine bJ (S:=Rds g m w.heap.size z.heap.size jv n (.slice q A c1)) (by kernel_rfl) hS ?_
  generalize (z.alloc (.cells #[.slice q A c1] 36)).drew=X at *;refine aN 0 (some 11) (.pointer (some ⟨g,0,none⟩)) 27 2 w.heap.size 0 (by kernel_rfl) (by kernel_rfl) (by kernel_rfl) (fun w' h=>Fj (h.1.cell (i:=0) rfl)) i3 hS ?_
  refine ax 1 12 (.pointer (some ⟨g,0,none⟩)) (by kernel_rfl) (fun _ _=>by kernel_rfl) i3 hS ?_
  refine ax 2 13 (.pointer (some ⟨g,0,none⟩)) (by kernel_rfl) (fun _ _=>by kernel_rfl) i3 hS ?_
  refine aN 3 (some 14) (.pointer (some ⟨m,0,none⟩)) 76 13 g 0 (by kernel_rfl) (by kernel_rfl) (by kernel_rfl) (fun w' h=>AZ (h.2.1.cell (i:=0) rfl)) i3 hS ?_
  refine aN 4 (some 15) (.slice q A c1) 36 5 z.heap.size 0 (by kernel_rfl) (by kernel_rfl) (by kernel_rfl) (fun w' h=>Fl (h.2.2.cell (i:=0) rfl)) i3 hS ?_
  have G:=af X (.cells #[.slice none 0 0] 36);refine aB [5,9] (by kernel_rfl) (by simp) (vV 5 (some 16) 115 #[.pointer (some ⟨m,0,none⟩),.slice q A c1] (by kernel_rfl) (by kernel_rfl) (M.out _ _ J r.by) ?_ (aO 9 (some 6) (.pointer (some ⟨X.heap.size,0,none⟩)) (X.alloc (.cells #[.slice none 0 0] 36)) (by kernel_rfl) (by kernel_rfl) (hS.keep G) ?_ aL))
  ·rintro e' y ⟨O,rfl,D,C⟩;obtain⟨j,o,rfl⟩:∃ j o,O=.slice j L.length o:=(by obtain⟨j,o,e,_⟩:=D.by.ex;exact⟨j,o,e⟩)
   refine⟨_,rfl,hS.keep C,?_⟩;replace hS:=hS.keep C;replace r:=r.keep C;generalize L.length=s at *;refine ax 6 10 (.tuple #[.slice j s o,.bool true]) (by kernel_rfl) (fun _ _=>by kernel_rfl) i3 hS ?_
   refine ax 7 17 (.slice j s o) (by kernel_rfl) (fun _ _=>by kernel_rfl) i3 hS ?_
   refine ax 8 18 (.bool true) (by kernel_rfl) (fun _ _=>by kernel_rfl) i3 hS ?_
   have F:=ai J C;have hX3:=C.size;refine aB [9] (by kernel_rfl) (by simp) (aO 9 (some 6) (.pointer (some ⟨y.heap.size,0,none⟩)) (y.alloc (.cells #[.slice none 0 0] 36)) (by kernel_rfl) (by kernel_rfl) (hS.keep (af y _)) ?_ aL);have K:=af y (.cells #[.slice none 0 0] 36);replace hS:=hS.keep K;replace r:=r.keep K;replace D:=(D.mono (D':=(w.heap.size <= ·)) (fun b _ h=>by have T:X.heap.size<=b:=h;omega)).keep K;have t:=aj y [.slice none 0 0] 36;replace F:=ai F K;have l:=t.cell (i:=0) rfl;have f:=t.free 0
   have x:Chg (·=y.heap.size) (y.alloc (.cells #[.slice none 0 0] 36)) ((y.alloc (.cells #[.slice none 0 0] 36)).setCell ⟨y.heap.size,0,none⟩ (.slice j s o)):=(Chg.refl (·=y.heap.size) (y.alloc (.cells #[.slice none 0 0] 36))).cell (.inl rfl) _
   have p:Rds g m w.heap.size z.heap.size jv n (.slice q A c1) ((y.alloc (.cells #[.slice none 0 0] 36)).setCell ⟨y.heap.size,0,none⟩ (.slice j s o)):=⟨hS.1.chg x (by omega),hS.2.1.chg x (by omega),hS.2.2.chg x (by omega)⟩
   refine aB [10] (by kernel_rfl) (by simp) (cB 10 ((y.alloc (.cells #[.slice none 0 0] 36)).setCell ⟨y.heap.size,0,none⟩ (.slice j s o)) (by kernel_rfl) (lT 6 17 (by kernel_rfl) (by kernel_rfl) (by kernel_rfl) l f) p ?_ aL);refine ax 11 7 (.bool true) (by kernel_rfl) (fun _ _=>by kernel_rfl) i3 p ?_
   refine bh (by kernel_rfl) ?_
   simp only[Act.put,List.setIfInBounds_toArray,List.set_cons_zero,List.set_cons_succ];have d:=ah (And.intro (t.setCell (i:=0) (.slice j s o)) (And.intro (gU x t D) (And.intro (gU x t r) (And.intro p (F.trans (x.below (B:=w.heap.size) (fun b e=>by omega) F.size))))));have N:=ah (show w.heap.size<=y.heap.size by omega);clear l f x t D hS G r F p M J P;generalize (y.alloc (.cells #[.slice none 0 0] 36)).setCell ⟨y.heap.size,0,none⟩ (.slice j s o)=Z at *;go_wp2;go_ret;exact⟨_,_,_,_,_,rfl,Nat.le_refl _,by omega,N.out,d.out.2.2.2.1.1,d.out.2.2.2.1.2.2,d.out.1,d.out.2.2.1,d.out.2.1,d.out.2.2.2.2⟩
  ·replace hS:=hS.keep G;replace r:=r.keep G;have I:=ai J G;have t:=aj X [.slice none 0 0] 36
   have R:X.heap.size < (X.alloc (.cells #[.slice none 0 0] 36)).heap.size:=by simp
   refine bQ 5 (some 16) 115 #[.pointer (some ⟨m,0,none⟩),.slice q A c1] (by kernel_rfl) (by kernel_rfl) (M.out _ _ I r.by) ?_
   rintro e' y ⟨O,rfl,D,C⟩;obtain⟨j,o,rfl⟩:∃ j o,O=.slice j L.length o:=(by obtain⟨j,o,e,_⟩:=D.by.ex;exact⟨j,o,e⟩)
   refine⟨_,rfl,hS.keep C,?_⟩;replace hS:=hS.keep C;replace r:=r.keep C;generalize L.length=s at *;refine ax 6 10 (.tuple #[.slice j s o,.bool true]) (by kernel_rfl) (fun _ _=>by kernel_rfl) i3 hS ?_
   refine ax 7 17 (.slice j s o) (by kernel_rfl) (fun _ _=>by kernel_rfl) i3 hS ?_
   refine ax 8 18 (.bool true) (by kernel_rfl) (fun _ _=>by kernel_rfl) i3 hS ?_
   have F:=ai I C;replace t:=t.keep C;replace D:=D.mono (D':=(w.heap.size <= ·)) (fun b _ h=>by have T:(X.alloc (.cells #[.slice none 0 0] 36)).heap.size<=b:=h;omega);have l:=t.cell (i:=0) rfl;have f:=t.free 0
   have x:Chg (·=X.heap.size) (y) ((y).setCell ⟨X.heap.size,0,none⟩ (.slice j s o)):=(Chg.refl (·=X.heap.size) (y)).cell (.inl rfl) _
   have p:Rds g m w.heap.size z.heap.size jv n (.slice q A c1) ((y).setCell ⟨X.heap.size,0,none⟩ (.slice j s o)):=⟨hS.1.chg x (by omega),hS.2.1.chg x (by omega),hS.2.2.chg x (by omega)⟩
   refine aB [10] (by kernel_rfl) (by simp) (cB 10 ((y).setCell ⟨X.heap.size,0,none⟩ (.slice j s o)) (by kernel_rfl) (lT 6 17 (by kernel_rfl) (by kernel_rfl) (by kernel_rfl) l f) p ?_ aL);refine ax 11 7 (.bool true) (by kernel_rfl) (fun _ _=>by kernel_rfl) i3 p ?_
   refine bh (by kernel_rfl) ?_
   simp only[Act.put,List.setIfInBounds_toArray,List.set_cons_zero,List.set_cons_succ];have d:=ah (And.intro (t.setCell (i:=0) (.slice j s o)) (And.intro (gU x t D) (And.intro (gU x t r) (And.intro p (F.trans (x.below (B:=w.heap.size) (fun b e=>by omega) F.size))))));have N:=ah (show w.heap.size<=X.heap.size by omega);clear l f x t D hS G r F p M J P;generalize (y).setCell ⟨X.heap.size,0,none⟩ (.slice j s o)=Z at *;go_wp2;go_ret;exact⟨_,_,_,_,_,rfl,Nat.le_refl _,by omega,N.out,d.out.2.2.2.1.1,d.out.2.2.2.1.2.2,d.out.1,d.out.2.2.1,d.out.2.1,d.out.2.2.2.2⟩
end
end Kv
end
section
namespace Kv
open Go.RowKit Go.Lib Pg
section
variable {w:World} {b n c i:Nat} {xs:List Value}
end
end Kv
end
section
namespace Kv
open Go.RowKit Go.Lib Pg
attribute [local go_sem] Oper.semAt_some
section
variable {w:World}{V D:Nat->Prop}{g:Nat}{j:Jr}{cs':List Value}{bv jv:Value}{l:List Nat}{o:Option Nat}{Q:List (List KV)}{T0:List Jr}
theorem r8(ao:Option Addr)(n c:Nat)(hn:n<=c)(b:Option Addr)(c':Nat):(Builtin.append_ #[268,268] 268 #[.slice ao n c,.slice b 0 c']).run Tryz.prog w=.ok (.slice ao n c) w:=by
 obtain⟨i,hi,e,f,hb⟩:=info_parts KF.inf;have:(Builtin.firstCells i.size 0 (.slice b 0 c')).run Tryz.prog w=.ok #[] w:=by
  cases b with
  | none=>rfl
  | some a=>exact run_firstCells_some w i.size 0 a 0 c' [] (by simp) (fun j v d=>by simp at d)
 cases ao with
 | none=>simp[Builtin.append_,run_underlying KF.und,sizeOf,typeInfo,hi,Builtin.lenOf,this,hn]
 | some a=>simp[Builtin.append_,run_underlying KF.und,sizeOf,typeInfo,hi,Builtin.lenOf,this,hn,storeCells]
def Lies(w:World)(bv:Value)(cs:List Value):Prop:=(bv=.slice none 0 0/\cs=[])\/∃ a c,bv=.slice (some a) cs.length c/\∀ i x,cs[i]?=some x->w.cell? (a.add i)=some x
theorem zS{t:List Und}(J:JrA w V D g j)(y:iz w V D g t cs')(hb:Lies w bv cs')(hlen:j.U.length+t.length<=1000000000) :
  ∃ v' o' w',(Builtin.append_ #[268,268] 268 #[j.v,bv]).run Tryz.prog w=.ok v' w'/\(∃ ao n c,v'=.slice ao n c)/\JrA w' V D g ⟨j.U ++ t,v',o'⟩/\(∀ b,o'=some b->j.o=some b\/b=w.heap.size)/\Chg (fun b=>j.o=some b) w w':=by
 obtain⟨cs,hc,G⟩:=J;have d:=y.1;by_cases z:t=[]
 ·subst z
  have p:cs'=[]:=List.eq_nil_of_length_eq_zero (by rw[d];rfl);subst p;obtain⟨u,l,rfl⟩:∃ u l,bv=.slice u 0 l:=by
   rcases hb with⟨e,_⟩ | ⟨a,c,e,_⟩
   ·exact⟨none,0,e⟩
   ·exact⟨some a,c,e⟩
  rcases G with⟨e1,e2,e3⟩ | ⟨b,c,e1,e2,hR⟩
  ·refine⟨_,j.o,w,by rw[e2];exact r8 none 0 0 (Nat.le_refl _) u l,⟨none,0,0,rfl⟩,⟨cs,by simpa using hc,.inl ⟨e1,rfl,by simpa using e3⟩⟩,fun b h=>.inl h,Chg.refl _ _⟩
  ·refine⟨_,j.o,w,by rw[e2];exact r8 _ _ _ hR.le.1 u l,⟨_,_,_,rfl⟩,⟨cs,by simpa using hc,.inr ⟨b,c,e1,by simp,by simpa using hR⟩⟩,fun b h=>.inl h,Chg.refl _ _⟩
 ·obtain⟨a,ca,rfl,f⟩:∃ a c,bv=.slice (some a) cs'.length c/\∀ i x,cs'[i]?=some x->w.cell? (a.add i)=some x:=by
   rcases hb with⟨_,e⟩ | h
   ·rw[e] at d;exact absurd (List.eq_nil_of_length_eq_zero d.symm) z
   ·exact h
  have r:0 < cs'.length:=by rw[d];exact List.length_pos_iff.2 z
  rcases G with⟨e1,e2,e3⟩ | ⟨b,c,e1,e2,hR⟩
  ·have p:cs=[]:=List.eq_nil_of_length_eq_zero (by rw[hc.1,e3];rfl);subst p;obtain⟨l,W,B,m,E⟩:=er (w:=w) KF 268 a cs'.length ca cs' (by simp) f r (by omega) (by omega);refine⟨_,some w.heap.size,W,by rw[e2];exact B,⟨_,_,_,rfl⟩,⟨cs',?_,.inr ⟨_,l,rfl,by rw[e3,d];rfl,by rw[e3];simpa[d] using m⟩⟩,fun b h=>.inr (by cases h;rfl),Chg.of E⟩;rw[e3];exact y.stay ⟨fun b _ _ _ k _=>E.block b k.lt,fun b I _ _=>E.block b I⟩
  ·obtain⟨F,l,W,B,C,m,s⟩:=dh KF 268 hR a cs'.length ca cs' (by simp) f y.one (by omega) (by omega);obtain⟨H,A⟩:=hR.kind
   have q:lF V D w W:=lI A (by decide) (by decide) (by decide) s;refine⟨_,some F,W,by rw[e2];exact B,⟨_,_,_,rfl⟩,⟨cs ++ cs',(hc.stay q).app (y.stay q),.inr ⟨F,l,rfl,by simp[d],by simpa[d] using m⟩⟩,fun x h=>?_,s.mono (fun x _ e=>by have K:x=b:=e;rw[K,e1])⟩
   cases h;rcases C with e | e
   ·exact .inl (by rw[e1,e])
   ·exact .inr e
theorem sc(T0:List Jr)(j:Jr):tot (T0 ++ [j])=tot T0+j.U.length:=by simp[tot]
theorem mf:(l ++ o.toList).Nodup ↔ l.Nodup∧∀ b,o=some b→b ∉ l:=by
  cases o with
  | none=>simp
  | some x => simp[List.nodup_append]; intro _; constructor
              · intro h hx;exact h x hx rfl
              · intro h a c e;subst e;exact h c
theorem wH(T0:List Jr)(j:Jr):(T0 ++ [j]).filterMap Jr.o=T0.filterMap Jr.o ++ j.o.toList:=by
 rw[List.filterMap_append];congr 1
theorem SX.inner{u:World}{K F:Nat->Prop}{m s:Nat}{j':Jr}{n N N':Nat}(h:SX w K D F V g m Q jv (T0 ++ [j]) (some s) n N)(G:JrA u V D g j')(E:∀ b,j'.o=some b->j.o=some b\/w.heap.size<=b)(J:N<=N')(a:Kv.tot (T0 ++ [j'])+Q.flatten.length<=N')(r:∃ c,jv=.slice (some ⟨s,0,none⟩) (T0 ++ [j]).length c/\Rw u 271 1 s (T0 ++ [j]).length c ((T0 ++ [j']).map Jr.v))(hc:Chg (fun b=>j.o=some b\/b=s) w u) :
  SX u (fun b=>(K b/\¬ j.o=some b)\/j'.o=some b) D F V g m Q jv (T0 ++ [j']) (some s) n N':=by
 have i:j∈T0 ++ [j]:=by simp
 have hx:∀ b cs t,Blk w b cs t->t≠1->t≠271->u.heap[b]? = w.heap[b]? := fun b cs t k q z=>hc.same b k.lt (fun e=>by
  rcases e with e | e
  ·obtain⟨p,l⟩:=(h.jn.each j i).kind e;exact q (k.eq l).2
  ·subst e;obtain⟨p,l⟩:=h.jn.kind rfl
   exact z (k.eq l).2)
 have A:∀ b,(j.o=some b\/b=s)->¬ F b:=fun b e=>e.elim (h.own.oh j i b) (fun e=>by subst e;exact h.own.rI _ rfl)
 have y:lF V D w u:=⟨fun b cs t _ k a=>hx b cs t k (by rcases a with e | e<;>subst e<;>decide) (by rcases a with e | e<;>subst e<;>decide),fun b _ _ k=>by obtain⟨cs,k⟩:=k;exact hx b cs _ k (by decide) (by decide)⟩
 have x:∀ t∈T0 ++ [j],∀ b,t.o=some b->b < w.heap.size:=fun t a b e=>by obtain⟨cs,k⟩:=(h.jn.each t a).kind e;exact k.lt
 have f:=h.jn.apart;rw[wH,mf] at f;refine⟨⟨by rw[hx g _ _ h.blk (by decide) (by decide)];exact h.blk.blk⟩,h.map.same (fun b hF=>hc.same b (h.map.lt hF) (fun e=>A b e hF)) (fun b _ _ k=>by obtain⟨cs,k⟩:=k;exact hx b cs _ k (by decide) (by decide)) |>.more J,⟨?_,?_,?_⟩,a,by have:=h.len;simp at this ⊢;omega,?_⟩
 ·obtain⟨c,e,B⟩:=r;exact .inr ⟨s,c,rfl,by rw[e];simp,by simpa using B⟩
 ·intro t a;rcases List.mem_append.1 a with d | d
  ·refine(h.jn.each t (List.mem_append_left _ d)).stay y (fun b e => ?_);refine hc.same b (x t (List.mem_append_left _ d) b e) (fun e2 => ?_);rcases e2 with e2 | e2
   ·exact f.2 b e2 (List.mem_filterMap.2 ⟨t,d,e⟩)
   ·subst e2;obtain⟨cs,k⟩:=(h.jn.each t (List.mem_append_left _ d)).kind e;obtain⟨p,l⟩:=h.jn.kind rfl;exact absurd (k.eq l).2 (by decide)
  ·simp at d;subst d;exact G
 ·rw[wH,mf];refine⟨f.1,fun b e hm => ?_⟩;rcases E b e with q | q
  ·exact f.2 b q hm
  ·obtain⟨t,z,I⟩:=List.mem_filterMap.1 hm;have:=x t (List.mem_append_left _ z) b I;omega
 ·have C:∀ b cs t,Blk w b cs t->t≠1->¬ j.o=some b:=fun b cs t k q e=>by
   obtain⟨p,l⟩:=(h.jn.each j i).kind e;exact q (k.eq l).2
  refine⟨.inl ⟨h.own.top,C g _ _ h.blk (by decide)⟩,fun b hb=>.inl ⟨h.own.map b hb,fun e=>h.own.oh j i b e hb⟩,fun b hb => ?_,fun b hb => ?_,fun t a b e => ?_,fun b hb => ?_,h.own.qv,h.own.tO,h.own.rI,fun t a b e => ?_,fun b H=>by
   obtain⟨cs,t,k,a⟩:=h.own.vk b H
   exact⟨cs,t,k.same (y.var b cs t H k a),a⟩⟩
  ·obtain⟨cs,t,k,a⟩:=h.own.vk b hb;exact .inl ⟨h.own.var b hb,C b cs t k (by rcases a with e | e<;>subst e<;>decide)⟩
  ·cases hb;obtain⟨p,l⟩:=h.jn.kind rfl;exact .inl ⟨h.own.jrn _ rfl,C _ _ _ l (by decide)⟩
  ·rcases List.mem_append.1 a with d | d
   ·exact .inl ⟨h.own.bck t (List.mem_append_left _ d) b e,fun e2=>f.2 b e2 (List.mem_filterMap.2 ⟨t,d,e⟩)⟩
   ·simp at d;subst d;exact .inr e
  ·rcases hb with⟨hb,hn⟩ | hb
   ·by_cases e:b=s
    ·subst e;obtain⟨c,_,B⟩:=r;obtain⟨cs,k⟩:=B.kind;exact⟨cs,_,k,by decide⟩
    ·obtain⟨cs,t,k,a⟩:=h.own.kind b hb;exact⟨cs,t,k.chg hc (fun e2=>e2.elim hn e),a⟩
   ·obtain⟨cs,k⟩:=G.kind hb;exact⟨cs,_,k,by decide⟩
  ·rcases List.mem_append.1 a with d | d
   ·exact h.own.oh t (List.mem_append_left _ d) b e
   ·simp at d; subst d;rcases E b e with q | q
    ·exact h.own.oh j i b q
    ·intro hF;have:=h.map.lt hF;omega
end
section
variable {w:World}{V D:Nat->Prop}{g:Nat}{jv bv:Value}{T0:List Jr}{j:Jr}{oj:Option Nat}{Q:List (List KV)}{cs':List Value}
theorem xw(T0:List Jr)(j j':Jr):((T0 ++ [j]).map Jr.v).set T0.length j'.v=(T0 ++ [j']).map Jr.v:=by
 rw[List.map_append,List.map_append,List.set_append_right _ _ (by simp)];simp
theorem JnA.last(h:JnA w V D g jv (T0 ++ [j]) oj):∃ jb c,oj=some jb/\jv=.slice (some ⟨jb,0,none⟩) (T0.length+1) c/\Rw w 271 1 jb (T0.length+1) c ((T0 ++ [j]).map Jr.v):=by
 rcases h.row with⟨_,_,e⟩ | ⟨b,c,e1,e2,hR⟩
 ·exact absurd e (by simp)
 ·exact⟨b,c,e1,by rw[e2];simp,by simpa using hR⟩
theorem xnote{K F:Nat->Prop}{m:Nat}{n N:Nat}{r:List Und}(h:SX w K D F V g m Q jv (T0 ++ [j]) oj n N)(hC:iz w V D g r cs')(hb:Lies w bv cs'){N':Nat}(X:N<=N')(B:Kv.tot (T0 ++ [j])+r.length+Q.flatten.length<=N')(hN3:N'<=1000000000) :
  Calls Tryz.prog 128 #[.pointer (some ⟨g,0,none⟩),bv] w fun e w'=>e=.returned (.tuple #[])/\∃ K' j',j'.U=j.U ++ r/\SX w' K' D F V g m Q jv (T0 ++ [j']) oj n N'/\(∀ b,K' b->K b\/w.heap.size<=b)/\Chg K w w':=by
 have hlen:j.U.length+r.length<=1000000000:=by rw[sc] at B;omega
 obtain⟨f,c,rfl,rfl,G⟩:=h.jn.last;obtain⟨v',Y,C,hr,⟨s,t,u,rfl⟩,R,P,z⟩:=zS (h.jn.each j (by simp)) hC hb hlen
 have l:j∈T0 ++ [j]:=by simp
 have ud:=oF h.blk;have c1:=h.blk.cell (i:=1) rfl;have x:=G.cell (i:=T0.length) (v:=j.v) (by simp)
 have A:¬ j.o=some f:=fun e=>by
  obtain⟨cs,k⟩:=(h.jn.each j l).kind e;obtain⟨cs',O⟩:=G.kind;exact absurd (k.eq O).2 (by decide)
 have d:=G.chg z A;have p:=d.cell (i:=T0.length) (v:=j.v) (by simp);have H:=d.free T0.length;have hle:=G.le
 have S:∃ a1 n1 c1,j.v=.slice a1 n1 c1:=by
  obtain⟨cs,_,⟨_,e,_⟩ | ⟨b,c,_,e,_⟩⟩:=h.jn.each j l
  ·exact⟨_,_,_,e⟩
  ·exact⟨_,_,_,e⟩
 obtain⟨a1,n1,c2,W⟩:=S;rw[W] at x p hr
 have I:∃ a2 n2 c3,bv=.slice a2 n2 c3:=by
  rcases hb with⟨e,_⟩ | ⟨a,c,e,_⟩
  ·exact⟨_,_,_,e⟩
  ·exact⟨_,_,_,e⟩
 obtain⟨a2,n2,c3,L⟩:=I;subst L
 have hg0:(0:Int) < (T0.length:Int)+1:=by omega
 have hg1:(T0.length:Int)<=16:=by have:=h.len;simp at this;omega
 have M:Hid (∃ K' j',j'.U=j.U ++ r/\SX (C.setCell ⟨f,T0.length,none⟩ (.slice s t u)) K' D F V g m Q (.slice (some ⟨f,0,none⟩) (T0.length+1) c) (T0 ++ [j']) (some f) n N'/\(∀ b,K' b->K b\/w.heap.size<=b)/\Chg K w (C.setCell ⟨f,T0.length,none⟩ (.slice s t u))):=by
  have E:Chg (fun b=>j.o=some b\/b=f) w (C.setCell ⟨f,T0.length,none⟩ (.slice s t u)):=(z.mono (fun b _ e=>.inl e)).cell (.inl (.inr rfl)) _;obtain⟨cs,Z⟩:=d.kind
  have T:JrA (C.setCell ⟨f,T0.length,none⟩ (.slice s t u)) V D g ⟨j.U ++ r,.slice s t u,Y⟩:=R.stay (lI Z (by decide) (by decide) (by decide) ((Chg.refl (· = f) C).cell (.inl rfl) _)) (fun b e=>by
   have J:b≠f:=fun e2=>by
    subst e2;obtain⟨cs',O⟩:=R.kind e;exact absurd (O.eq Z).2 (by decide)
   exact Below.heap_setCell _ _ _ _ J)
  have hS:=h.inner (j':=⟨j.U ++ r,.slice s t u,Y⟩) T (fun b e=>(P b e).imp id (fun e=>by omega)) (N':=N') X (by rw[sc] at B ⊢; simp only[List.length_append]; omega) ⟨c,by simp,by
   have:=d.set T0.length (by simp) (.slice s t u);rw[xw T0 j ⟨j.U ++ r,.slice s t u,Y⟩] at this
   simpa using this⟩ E
  refine⟨_,_,rfl,hS,fun b hb=>?_,E.mono (fun b _ e=>?_)⟩
  ·rcases hb with hb | hb
   ·exact .inl hb.1
   ·rcases P b hb with e | e
    ·exact .inl (h.own.bck j l b e)
    ·exact .inr (by omega)
  ·rcases e with e | e
   ·exact h.own.bck j l b e
   ·subst e;exact h.own.jrn _ rfl
 clear h hC hb G d R P z A hlen;generalize T0.length=q at *;go_enter Tryz.func128,Tryz.ntmps128;go_wp2_with first
  | (go_at_call 127;go_must (refine ud.mono ?_);rintro e y ⟨rfl,hy⟩;replace hy:=hy.symm;subst hy)
  | (at_builtin;refine Lib.wpList_append_run _ rfl _ _ _ _ rfl _ _ rfl rfl _ _ hr ?_)
 go_end0;exact⟨rfl,M.out⟩
end
section
variable {w:World}{K D F V:Nat->Prop}{g m n N:Nat}{Q:List (List KV)}{jv kv:Value}{T T0:List Jr}{oj:Option Nat}{k:List Int}
theorem yh(h:SX w K D F V g m Q jv T oj n N)(q:By w kv k)(a:k.length<=1000000000)(v:N<=100000000) :
  Calls Tryz.prog 129 #[.pointer (some ⟨g,0,none⟩),kv] w fun e w'=>∃ (c:Value) (S:Nat->Prop),e=.returned c/\(∃ f cap,c=.func (.func f) #[] cap)/\SX w' (fun b=>K b\/S b) (fun b=>D b\/w.heap.size<=b) F (fun b=>V b\/S b) g m Q jv T oj n N/\nU w' (fun b=>V b\/S b) (fun b=>D b\/w.heap.size<=b) g (k,look Q.flatten k) c/\(∀ b,S b->w.heap.size<=b)/\Below w.heap.size w w':=by
 refine(pR (there:=(look Q.flatten k).isSome) (L:=(look Q.flatten k).getD []) h.blk q a (fun w' t y r=>(mw (h.keep y) r v).mono fun e u h=>h)).mono ?_
 rintro e w' ⟨s1,s2,s3,v1,o,rfl,g1,z,A,d,l,i,s,j,B⟩
 have p:=(h.keep B).vars (S:=fun b=>b=s1\/b=s2\/b=s3) (fun b hb hF=>by have:=h.map.lt hF; rcases hb with rfl | rfl | rfl<;>omega) (fun b hb=>by
  rcases hb with rfl | rfl | rfl
  ·exact⟨_,_,d,.inl rfl⟩
  ·exact⟨_,_,l,.inr rfl⟩
  ·exact⟨_,_,i,.inr rfl⟩) (D':=fun b=>D b\/w.heap.size<=b) (fun _ _ h=>.inl h)
 refine⟨_,fun b=>b=s1\/b=s2\/b=s3,rfl,⟨_,_,rfl⟩,p,⟨⟨a,fun x hx=>?_⟩,s1,s2,v1,.inr (.inl rfl),.inr (.inr (.inl rfl)),d,l,s.mono (fun _ _ h=>.inr h),?_⟩,(fun b hb=>by rcases hb with rfl | rfl | rfl<;>assumption),B⟩
 ·exact(h.map.small _ (mj hx)).2
 ·cases hl:look Q.flatten k with
  | none=>exact .inl ⟨rfl,by simp⟩
  | some x=>exact .inr ⟨s3,o,x,.inr (.inr (.inr rfl)),i,by rw[hl] at j;exact j.mono (fun _ _ h=>.inr h),rfl,by simp⟩
theorem l5(h:SX w K D F V g m Q jv [] oj n N) :
  Calls Tryz.prog 83 #[.pointer (some ⟨g,0,none⟩),kv] w fun e w'=>e=.returned (.tuple #[])/\w'=w:=by
 have b:=zu h;clear h;go_enter Tryz.func83,Tryz.ntmps83;go_wp2_with (go_at_call 127;go_must (refine b.mono ?_);rintro e y ⟨rfl,hy⟩;replace hy:=hy.symm;subst hy);go_end0;exact⟨rfl,rfl⟩
theorem oY{j:Jr}(h:SX w K D F V g m Q jv (T0 ++ [j]) oj n N)(q:By w kv k)(p:k.length<=1000000000)(J:N<=100000000) :
  Calls Tryz.prog 83 #[.pointer (some ⟨g,0,none⟩),kv] w fun e w'=>e=.returned (.tuple #[])/\∃ K' V' j',j'.U=j.U ++ [(k,look Q.flatten k)]/\SX w' K' (fun b=>D b\/w.heap.size<=b) F V' g m Q jv (T0 ++ [j']) oj n (N+1)/\(∀ b,K' b->K b\/w.heap.size<=b)/\Chg K w w':=by
 have s:=zu h;have E:=yh h q p J;obtain⟨L,c,rfl,-⟩:=id q.ex;generalize k.length=kn at *
 have z:(0:Int) < ((T0 ++ [j]).length:Int):=by simp
 have M:Hid (∀ b,K b->b < w.heap.size):=fun b hb=>by obtain⟨cs,t,k,_⟩:=h.own.kind b hb;exact k.lt
 clear h q;generalize (T0 ++ [j]).length=tl at *;go_enter Tryz.func83,Tryz.ntmps83;go_wp2_with first
  | (go_at_call 127;go_must (refine s.mono ?_);rintro e y ⟨rfl,hy⟩;replace hy:=hy.symm;subst hy)
  | (go_at_call 129;go_must (refine E.mono ?_);rintro e d ⟨cl,S,rfl,⟨f,cap,rfl⟩,l,v,hS,A⟩;have al:=af d (.cells #[.func (.func f) #[] cap] 1);have bl:=aj d [.func (.func f) #[] cap] 1;have C:iz (d.alloc (.cells #[.func (.func f) #[] cap] 1)) (fun b=>V b\/S b) (fun b=>D b\/w.heap.size<=b) g [(k,look Q.flatten k)] [.func (.func f) #[] cap]:=⟨rfl,(fun i u c hu hc=>by (have hi:i=0:=(by have:=(List.getElem?_eq_some_iff.1 hu).1;simp at this;omega));subst hi;simp at hu hc;subst hu;subst hc;exact v.stay ⟨fun b _ _ _ k _=>al.block b k.lt,fun b z _ _=>al.block b z⟩)⟩;have B:Lies (d.alloc (.cells #[.func (.func f) #[] cap] 1)) (.slice (some ⟨d.heap.size,0,none⟩) 1 1) [.func (.func f) #[] cap]:=.inr ⟨_,1,rfl,(fun i x hx=>by (have hi:i=0:=(by have:=(List.getElem?_eq_some_iff.1 hx).1;simp at this;omega));subst hi;simp at hx;subst hx;exact bl.cell (i:=0) rfl)⟩;have un:=xnote (N':=N+1) (l.keep al) C B (by omega) (by have:=l.tot;simp only[List.length_cons,List.length_nil];omega) (by omega);clear l v C B bl s E)
  | (go_at_call 128;go_must (refine un.mono ?_);rintro e O ⟨rfl,K',j',r,H,o,I⟩;clear un)
 go_end0;refine⟨rfl,K',_,j',r,H,fun b hb=>?_,?_⟩
 ·rcases o b hb with(h1 | h1) | h1
  ·exact .inl h1
  ·exact .inr (hS b h1)
  ·exact .inr (by have:=A.size;have:=al.size;omega)
 ·have G:=ai A al;exact(Chg.of (F:=K) G).trans I (fun b hb e=>e.elim id (fun e=>by have:=hS b e;omega))
def BK(w:World)(K:Nat->Prop)(kv:Value)(k:List Int):Prop:=∀ w',Chg K w w'->By w' kv k
theorem BK.by(h:BK w K kv k):By w kv k:=h w (Chg.refl _ _)
theorem BK.shape(h:BK w K kv k):∃ ao c,kv=.slice ao k.length c:=by
 obtain⟨ao,c,e,_⟩:=h.by.ex
 exact⟨ao,c,e⟩
theorem fj{w1 w2:World}(h:Chg K w w1)(h':Chg K w1 w2):Chg K w w2:=h.trans h' (fun _ _ h=>h)
end
section
variable {T0 T:List Jr}{j:Jr}{W:List ay}{E E':ay}{w w':World}{K D F V:Nat->Prop}{g m n N:Nat}{Q:List (List KV)}{jv kv vv:Value}{oj:Option Nat}{k v:List Int}
theorem oE{j':Jr}{u:Und}(h:kH ((T0 ++ [j]).reverse.map Jr.U) W E)(a:j'.U=j.U ++ [u])(hu:BI E' u=E):kH ((T0 ++ [j']).reverse.map Jr.U) W E':=by
 rw[List.reverse_append] at h ⊢;simp only[List.reverse_cons,List.reverse_nil,List.nil_append,List.cons_append,List.map_cons] at h ⊢
 cases W with
 | nil=>exact h.elim
 | cons e W=>exact⟨by rw[a,uJ,hu];exact h.1,h.2⟩
theorem rS(h:kH [] W E):kH [] W E':=by
 cases W with
 | nil=>trivial
 | cons e W=>exact h.elim
def eH(k v:List Int):Int:=if k.length=0\/64 < k.length then 60 else if 4096 < v.length then 61 else 0
def Ends(w:World)(K D:Nat->Prop)(g:Nat)(E:ay)(W:List ay)(n N:Nat)(r:Value)(e:Ending)(w':World):Prop:=e=.returned r/\∃ K',SA w' K' (fun b=>D b\/w.heap.size<=b) g E W n N/\(∀ b,K' b->K b\/w.heap.size<=b)/\Chg K w w'
theorem SX.kg(h:SX w K D F V g m Q jv T oj n N)(hc:Chg (·=g) w w'):Chg K w w':=hc.mono (fun b _ e=>by have e':b=g:=e;subst e';exact h.own.top)
theorem xW(h:SA w K D g E W n N)(i:BK w K kv k)(l:BK w K vv v)(hn:n<=4000000000000000000)(y:k.length=0) :
  Calls Tryz.prog 33 #[.pointer (some ⟨g,0,none⟩),kv,vv] w (Ends w K D g E W (n+1) (N+2) (.int .i64 60)):=by
 obtain⟨F,V,m,Q,A,T,G,f,j,o⟩:=h.open;obtain⟨z,c,rfl⟩:=i.shape;obtain⟨B,d,rfl⟩:=l.shape;have u:=fZ f hn;have t:=ah f;have r:=ah j;have p:=ah o;generalize k.length=kn at *;generalize v.length=C at *
 have g0:(kn:Int)=0:=by omega
 clear f j o h i l;go_enter Tryz.func33,Tryz.ntmps33;go_wp2_with (go_at_call 82;go_must (refine u.mono ?_);rintro e x ⟨rfl,s,q⟩);go_ret;exact⟨rfl,K,(s.shut r.out p.out).more (by omega) |>.mono (fun _ _ h=>.inl h),fun b h=>.inl h,t.out.kg q⟩
theorem xr(h:SA w K D g E W n N)(i:BK w K kv k)(l:BK w K vv v)(hn:n<=4000000000000000000)(y:¬ k.length=0)(A:64 < k.length) :
  Calls Tryz.prog 33 #[.pointer (some ⟨g,0,none⟩),kv,vv] w (Ends w K D g E W (n+1) (N+2) (.int .i64 60)):=by
 obtain⟨F,V,m,Q,B,T,H,f,j,o⟩:=h.open;obtain⟨z,c,rfl⟩:=i.shape;obtain⟨C,d,rfl⟩:=l.shape;have u:=fZ f hn;have t:=ah f;have r:=ah j;have p:=ah o;generalize k.length=kn at *;generalize v.length=G at *
 have g0:((kn:Int)=0)=False:=eq_false (by omega)
 have g1:(64:Int) < kn:=by omega
 clear f j o h i l;go_enter Tryz.func33,Tryz.ntmps33;go_wp2_with (go_at_call 82;go_must (refine u.mono ?_);rintro e x ⟨rfl,s,q⟩);go_ret;exact⟨rfl,K,(s.shut r.out p.out).more (by omega) |>.mono (fun _ _ h=>.inl h),fun b h=>.inl h,t.out.kg q⟩
theorem Bg(h:SA w K D g E W n N)(i:BK w K kv k)(l:BK w K vv v)(hn:n<=4000000000000000000)(A:¬ k.length=0)(G:¬ 64 < k.length)(z:4096 < v.length) :
  Calls Tryz.prog 33 #[.pointer (some ⟨g,0,none⟩),kv,vv] w (Ends w K D g E W (n+1) (N+2) (.int .i64 61)):=by
 obtain⟨F,V,m,Q,H,T,J,f,j,o⟩:=h.open;obtain⟨C,c,rfl⟩:=i.shape;obtain⟨I,d,rfl⟩:=l.shape;have u:=fZ f hn;have x:=ah f;have s:=ah j;have p:=ah o;generalize k.length=kn at *;generalize v.length=r at *
 have g0:((kn:Int)=0)=False:=eq_false (by omega)
 have g1:((64:Int) < kn)=False:=eq_false (by omega)
 have B:(4096:Int) < r:=by omega
 clear f j o h i l;go_enter Tryz.func33,Tryz.ntmps33;go_wp2_with (go_at_call 82;go_must (refine u.mono ?_);rintro e y ⟨rfl,t,q⟩);go_ret;exact⟨rfl,K,(t.shut s.out p.out).more (by omega) |>.mono (fun _ _ h=>.inl h),fun b h=>.inl h,x.out.kg q⟩
theorem yY(p:SX w K D F V g m Q jv [] oj n N)(I:kH ([].reverse.map Jr.U) W Q.flatten)(t:BK w K kv k)(q:BK w K vv v)(hn:n<=4000000000000000000)(z:N+2<=100000000)(M:¬ k.length=0)(l:¬ 64 < k.length)(J:¬ 4096 < v.length) :
  Calls Tryz.prog 33 #[.pointer (some ⟨g,0,none⟩),kv,vv] w (Ends w K D g (put Q.flatten k v) W (n+1) (N+2) (.int .i64 0)):=by
 obtain⟨T,c,rfl⟩:=t.shape;obtain⟨X,d,rfl⟩:=q.shape;have u:=fZ p hn;have A:=ah p;have R:=ah I;have G:=ah t;have H:=ah q;have r:=ah (show k.length<=64 by omega);have s:=ah (show v.length<=4096 by omega);replace z:N<=99999998:=by omega
 have P:=z;replace z:N<=100000000:=by omega
 have g0:((k.length:Int)=0)=False:=eq_false (by omega)
 have g1:((64:Int) < k.length)=False:=eq_false (by omega)
 have O:¬ ((4096:Int) < v.length):=by omega
 clear p I t q;obtain⟨kn,o⟩:∃ kn,Hid (k.length=kn):=⟨_,rfl⟩
 obtain⟨B,x⟩:∃ B,Hid (v.length=B):=⟨_,rfl⟩
 rw[o.out] at g0 g1 G M l ⊢;rw[x.out] at O H J ⊢;go_enter Tryz.func33,Tryz.ntmps33;go_wp2_with first
  | (go_at_call 82;go_must (refine u.mono ?_);rintro e Y ⟨rfl,f,j⟩)
  | (go_at_call 83;go_must (refine(l5 f).mono ?_);rintro e y ⟨rfl,hy⟩;replace hy:=hy.symm;subst hy;have c0:=f.blk.cell (i:=0) rfl;have us:=mset f.map (G.out _ (A.out.kg j)) (H.out _ (A.out.kg j)) (by have:=r.out;omega) (by have:=s.out;omega) (by omega))
  | (go_at_call 84;go_must (refine us.mono ?_);rintro e Z ⟨rfl,F',L,hF,C⟩)
 go_ret;have S:=f.mapped (N':=N+1) (by have:=f.tot;have:=dt f.map.ord.flat k v;rw[ia f.map.ord];omega) L hF (fun _ h=>.inl h) C;refine⟨rfl,_,((S.shut (E:=put Q.flatten k v) (W:=W) (ia f.map.ord k v) (rS R.out)).more (by omega)).mono (fun b _ hb=>?_),fun b hb=>?_,?_⟩
 ·rcases hb with hb | hb
  ·exact .inl hb
  ·exact .inr (by have:=j.size;omega)
 ·rcases hb with⟨hb,_⟩ | hb
  ·exact .inl hb
  ·rcases hF b hb with l | l
   ·exact .inl (f.own.map b l)
   ·exact .inr (by have:=j.size;omega)
 ·exact fj (A.out.kg j) (C.mono (fun b _ h=>f.own.map b h))
theorem Az(x:SX w K D F V g m Q jv (T0 ++ [j]) oj n N)(M:kH ((T0 ++ [j]).reverse.map Jr.U) W Q.flatten)(A:BK w K kv k)(y:BK w K vv v)(hn:n<=4000000000000000000)(s:N+2<=100000000)(T:¬ k.length=0)(r:¬ 64 < k.length)(O:¬ 4096 < v.length) :
  Calls Tryz.prog 33 #[.pointer (some ⟨g,0,none⟩),kv,vv] w (Ends w K D g (put Q.flatten k v) W (n+1) (N+2) (.int .i64 0)):=by
 obtain⟨ao,c,rfl⟩:=A.shape;obtain⟨bo,d,rfl⟩:=y.shape;have u:=fZ x hn;have H:=ah x;have Z:=ah M;have G:=ah A;have L:=ah y;have p:=ah (show k.length<=64 by omega);have z:=ah (show v.length<=4096 by omega);replace s:N<=99999998:=by omega
 have Y:=s;replace s:N<=100000000:=by omega
 have g0:((k.length:Int)=0)=False:=eq_false (by omega)
 have g1:((64:Int) < k.length)=False:=eq_false (by omega)
 have X:¬ ((4096:Int) < v.length):=by omega
 clear x M A y;obtain⟨kn,t⟩:∃ kn,Hid (k.length=kn):=⟨_,rfl⟩
 obtain⟨I,B⟩:∃ I,Hid (v.length=I):=⟨_,rfl⟩
 rw[t.out] at g0 g1 G T r ⊢;rw[B.out] at X L O ⊢;go_enter Tryz.func33,Tryz.ntmps33;go_wp2_with first
  | (go_at_call 82;go_must (refine u.mono ?_);rintro e w1 ⟨rfl,R,o⟩)
  | (go_at_call 83;go_must (refine(oY R (G.out _ (H.out.kg o)) (by have:=p.out;omega) s).mono ?_);rintro e w2 ⟨rfl,K2,V2,j',C,f,l,S⟩;have q:=fj (H.out.kg o) S;have c0:=f.blk.cell (i:=0) rfl;have us:=mset f.map (G.out _ q) (L.out _ q) (by have:=p.out;omega) (by have:=z.out;omega) (by omega))
  | (go_at_call 84;go_must (refine us.mono ?_);rintro e w3 ⟨rfl,F',P,hF,J⟩)
 go_ret;have X3:=f.mapped (N':=N+1+1) (by have:=f.tot;have:=dt f.map.ord.flat k v;rw[ia f.map.ord];omega) P hF (fun _ h=>.inl h) J;refine⟨rfl,_,((X3.shut (E:=put Q.flatten k v) (W:=W) (ia f.map.ord k v) (oE Z.out C (BD H.out.map.ord.flat k v))).more (by omega)).mono (fun b _ hb=>?_),fun b hb=>?_,?_⟩
 ·rcases hb with(hb | hb) | hb
  ·exact .inl hb
  ·exact .inr (by have:=o.size;omega)
  ·exact .inr (by have:=q.size;omega)
 ·rcases hb with⟨hb,_⟩ | hb
  ·exact(l b hb).imp id (fun h=>by have:=o.size;omega)
  ·rcases hF b hb with r | r
   ·exact(l b (f.own.map b r)).imp id (fun h=>by have:=o.size;omega)
   ·exact .inr (by have:=q.size;omega)
 ·exact q.trans J (fun b hb h=>(l b (f.own.map b h)).elim id (fun h=>by have:=o.size;omega))
theorem sset(h:SA w K D g E W n N)(c:BK w K kv k)(f:BK w K vv v)(hn:n<=4000000000000000000)(o:N+2<=100000000) :
  Calls Tryz.prog 33 #[.pointer (some ⟨g,0,none⟩),kv,vv] w (Ends w K D g (if eH k v=0 then put E k v else E) W (n+1) (N+2) (.int .i64 (eH k v))):=by
 by_cases a:k.length=0
 ·have e:eH k v=60:=by unfold eH; rw[if_pos (.inl a)]
  rw[e,if_neg (by decide)];exact xW h c f hn a
 ·by_cases d:64 < k.length
  ·have e:eH k v=60:=by unfold eH; rw[if_pos (.inr d)]
   rw[e,if_neg (by decide)];exact xr h c f hn a d
  ·by_cases b:4096 < v.length
   ·have e:eH k v=61:=by unfold eH; rw[if_neg (by omega),if_pos b]
    rw[e,if_neg (by decide)];exact Bg h c f hn a d b
   ·have e:eH k v=0:=by unfold eH; rw[if_neg (by omega),if_neg b]
    rw[e,if_pos rfl];obtain⟨F,V,m,Q,p,T,r,i,rfl,l⟩:=h.open;rcases List.eq_nil_or_concat T with rfl | ⟨q,j,rfl⟩
    ·exact yY i l c f hn o a d b
    ·rw[List.concat_eq_append] at i l;exact Az i l c f hn o a d b
end
end Kv
end
end Go.Proofs.YtidnifmehnjipaaGreat
