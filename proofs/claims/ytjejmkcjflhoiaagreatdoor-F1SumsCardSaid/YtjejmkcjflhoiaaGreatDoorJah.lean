import Derived.Test.YtjejmkcjflhoiaaGreatDoorJag
import Derived.Laws.LoneSync
set_option maxRecDepth 100000
set_option maxHeartbeats 8000000
namespace Go.Proofs.YtjejmkcjflhoiaaGreatDoor
section
namespace Kv
open Pg
section
variable {k x v:List Int}{Q:List (List KV)}
abbrev aI:=List KV
def ff(E:aI):Prop:=E.Pairwise fun x y=>Lt x.1 y.1
def look(E:aI)(k:List Int):Option (List Int):=(E.find? (fun x=>decide (x.1=k))).map Prod.snd
def put(E:aI)(k v:List Int):aI:=E.filter (fun x=>decide (Lt x.1 k)) ++ (k,v) :: E.filter (fun x=>decide (Lt k x.1))
def rem(E:aI)(k:List Int):aI:=E.filter (fun x=>decide (¬ x.1=k))
theorem eF{α:Type}{p:α->Bool}{l:List α}(h:∀ x∈l,p x=true):l.filter p=l:=List.filter_eq_self.2 h
theorem iQ{α:Type}{p:α->Bool}{l:List α}(h:∀ x∈l,p x=false):l.filter p=[]:=List.filter_eq_nil_iff.2 (fun x hx=>by rw[h x hx];simp)
structure Cut(k:List Int)(X Y:aI):Prop where
 lo:∀ x∈X,Lt x.1 k
 hi:∀ y∈Y,Lt k y.1
theorem Cut.nx{X Y:aI}(h:Cut k X Y):∀ x∈X,¬ x.1=k:=fun x hx e=>by have:=h.lo x hx;rw[e] at this;exact lt_irrefl _ this
theorem Cut.ny{X Y:aI}(h:Cut k X Y):∀ x∈Y,¬ x.1=k:=fun x hx e=>by have:=h.hi x hx;rw[e] at this;exact lt_irrefl _ this
theorem CZ{X:aI}(h:∀ x∈X,¬ x.1=k):look X k=none:=by
 unfold look;rw[List.find?_eq_none.2 (fun x hx=>by simp[h x hx])];rfl
theorem sP{X Y:aI}(h:∀ x∈X,¬ x.1=k):look (X ++ Y) k=look Y k:=by
 unfold look;rw[List.find?_append,List.find?_eq_none.2 (fun x hx=>by simp[h x hx])];simp
theorem Cut.sl{X Y:aI}(h:Cut k X Y):look (X ++ Y) k=none:=by rw[sP h.nx,CZ h.ny]
theorem Cut.oT{X Y:aI}(h:Cut k X Y):look (X ++ (k,x) :: Y) k=some x:=by
 rw[sP h.nx];simp[look]
theorem Cut.yD{X Y:aI}(h:Cut k X Y):put (X ++ Y) k v=X ++ (k,v) :: Y:=by
 unfold put;rw[List.filter_append,List.filter_append,eF (l:=X) (fun x hx=>decide_eq_true (h.lo x hx)),iQ (l:=Y) (fun x hx=>decide_eq_false (h.hi x hx).not),iQ (l:=X) (fun x hx=>decide_eq_false (h.lo x hx).not),eF (l:=Y) (fun x hx=>decide_eq_true (h.hi x hx))];simp
theorem Cut.xW{X Y:aI}(h:Cut k X Y):put (X ++ (k,x) :: Y) k v=X ++ (k,v) :: Y:=by
 unfold put;rw[List.filter_append,List.filter_append,eF (l:=X) (fun x hx=>decide_eq_true (h.lo x hx)),iQ (l:=X) (fun x hx=>decide_eq_false (h.lo x hx).not),List.filter_cons,List.filter_cons,iQ (l:=Y) (fun x hx=>decide_eq_false (h.hi x hx).not),eF (l:=Y) (fun x hx=>decide_eq_true (h.hi x hx)),decide_eq_false (lt_irrefl k)];simp
theorem Cut.yX{X Y:aI}(h:Cut k X Y):rem (X ++ Y) k=X ++ Y:=by
 unfold rem;rw[List.filter_append,eF (l:=X) (fun x hx=>decide_eq_true (h.nx x hx)),eF (l:=Y) (fun x hx=>decide_eq_true (h.ny x hx))]
theorem Cut.EG{X Y:aI}(h:Cut k X Y):rem (X ++ (k,x) :: Y) k=X ++ Y:=by
 unfold rem;rw[List.filter_append,eF (l:=X) (fun x hx=>decide_eq_true (h.nx x hx)),List.filter_cons,eF (l:=Y) (fun x hx=>decide_eq_true (h.ny x hx))];simp
theorem qP{X Y:aI}(h:ff (X ++ (k,x) :: Y)):Cut k X Y:=by
 unfold ff at h;rw[List.pairwise_append,List.pairwise_cons] at h;exact⟨fun a ha=>h.2.2 a ha (k,x) List.mem_cons_self,fun b hb=>h.2.1.1 b hb⟩
theorem ff.cut{E:aI}(h:ff E)(k:List Int):∃ X Y,Cut k X Y/\((E=X ++ Y/\look E k=none)\/∃ x,E=X ++ (k,x) :: Y/\look E k=some x):=by
 induction E with
 | nil=>exact⟨[],[],⟨fun _ h=>by simp at h,fun _ h=>by simp at h⟩,.inl ⟨rfl,rfl⟩⟩
 | cons a E ih =>
  have b:=h;unfold ff at b;rw[List.pairwise_cons] at b;rcases qy a.1 k with f | he | d
  ·obtain⟨X,Y,c,r⟩:=ih b.2
   have hc:Cut k (a :: X) Y:=⟨fun x hx=>by
    rcases List.mem_cons.1 hx with rfl | hx
    ·exact f
    ·exact c.lo x hx,c.hi⟩
   refine⟨a :: X,Y,hc,?_⟩;rcases r with⟨e,_⟩ | ⟨x,e,_⟩
   ·subst e;exact .inl ⟨rfl,hc.sl⟩
   ·subst e;exact .inr ⟨x,rfl,hc.oT⟩
  ·have hc:Cut k [] E:=⟨fun _ h=>by simp at h,fun y hy=>by rw[<- he];exact b.1 y hy⟩
   obtain⟨i,g⟩:=a;simp only at he;subst he;exact⟨[],E,hc,.inr ⟨g,rfl,hc.oT⟩⟩
  ·have hc:Cut k [] (a :: E):=⟨fun _ h=>by simp at h,fun y hy=>by
    rcases List.mem_cons.1 hy with rfl | hy
    ·exact d
    ·exact d.trans (b.1 y hy)⟩
   exact⟨[],a :: E,hc,.inl ⟨rfl,hc.sl⟩⟩
theorem r5{X Y:aI}(h:ff (X ++ Y))(c:Cut k X Y):ff (X ++ (k,v) :: Y):=by
 unfold ff at h ⊢;rw[List.pairwise_append] at h;rw[List.pairwise_append,List.pairwise_cons];refine⟨h.1,⟨fun y hy=>c.hi y hy,h.2.1⟩,fun x hx y hy=>?_⟩;rcases List.mem_cons.1 hy with rfl | hy
 ·exact c.lo x hx
 ·exact h.2.2 x hx y hy
theorem Au{X Y:aI}(h:ff (X ++ (k,v) :: Y)):ff (X ++ Y):=by
 unfold ff at h ⊢;rw[List.pairwise_append,List.pairwise_cons] at h;rw[List.pairwise_append];exact⟨h.1,h.2.1.2,fun x hx y hy=>h.2.2 x hx y (List.mem_cons_of_mem _ hy)⟩
theorem ff.put{E:aI}(h:ff E)(k v:List Int):ff (put E k v):=by
 obtain⟨X,Y,c,⟨rfl,_⟩ | ⟨x,rfl,_⟩⟩:=h.cut k
 ·rw[c.yD];exact r5 h c
 ·rw[c.xW];exact r5 (Au h) c
theorem ff.rem{E:aI}(h:ff E)(k:List Int):ff (rem E k):=List.Pairwise.filter _ h
abbrev Und:=List Int × Option (List Int)
def Cn(E:aI)(u:Und):aI:=match u.2 with
 | none=>rem E u.1
 | some v=>put E u.1 v
theorem Ci{E:aI}(h:ff E)(k v:List Int):Cn (put E k v) (k,look E k)=E:=by
 obtain⟨X,Y,c,⟨rfl,e⟩ | ⟨x,rfl,e⟩⟩:=h.cut k
 ·rw[e,c.yD];exact c.EG
 ·rw[e,c.xW];exact c.xW
theorem Ao{E:aI}(h:ff E)(k:List Int):Cn (rem E k) (k,look E k)=E:=by
 obtain⟨X,Y,c,⟨rfl,e⟩ | ⟨x,rfl,e⟩⟩:=h.cut k
 ·rw[e,c.yX];exact c.yX
 ·rw[e,c.EG];exact c.yD
def wE(U:List Und)(E:aI):aI:=U.foldr (fun u E=>Cn E u) E
theorem vw(U:List Und)(u:Und)(E:aI):wE (U ++ [u]) E=wE U (Cn E u):=by simp[wE]
def ly:List (List Und)->List aI->aI->Prop
 | [],[],_=>True
 | U :: J,e :: W,E=>wE U E=e/\ly J W e
 | _,_,_=>False
theorem iS(h:kI Q)(k v:List Int):(xX Q k v).flatten=put Q.flatten k v:=by
 cases hh:ia Q k
 ·obtain⟨X,Y,e1,e2,b,a⟩:=h.jf v hh;rw[e1,e2,Cut.yD ⟨b,a⟩]
 ·obtain⟨X,x,Y,e1,e2⟩:=h.wI v hh;have c:=qP (by have:=h.flat;rw[e1] at this;exact this);rw[e1,e2,c.xW]
theorem j1(h:kI Q)(k:List Int):ia Q k=(look Q.flatten k).isSome:=by
 cases hh:ia Q k
 ·obtain⟨X,Y,e1,_,b,a⟩:=h.jf [] hh;rw[e1,Cut.sl ⟨b,a⟩];rfl
 ·obtain⟨X,x,Y,e1,_⟩:=h.wI [] hh;have c:=qP (by have:=h.flat;rw[e1] at this;exact this);rw[e1,c.oT];rfl
theorem iY(h:kI Q)(k:List Int):(uF Q k).flatten=rem Q.flatten k:=by
 cases hh:ia Q k
 ·rw[xO hh];obtain⟨X,Y,e1,_,b,a⟩:=h.jf [] hh;rw[e1,Cut.yX ⟨b,a⟩]
 ·obtain⟨X,x,Y,e1,e2⟩:=h.EE hh;have c:=qP (by have:=h.flat;rw[e1] at this;exact this);rw[e1,e2,c.EG]
theorem Es(a:ia Q k=true):(k,yd Q k)∈Q.flatten:=by
 unfold ia thr at a;simp only[Bool.and_eq_true,Bool.not_eq_true',decide_eq_true_eq] at a;obtain⟨_,b⟩:=a;unfold yd;rw[List.getElem?_map] at b;obtain⟨x,hx,c⟩:=Option.map_eq_some_iff.1 b;rw[hx];simp only[Option.map_some,Option.getD_some];have hm:=List.mem_of_getElem? hx
 have d:x=(k,x.2):=by rw[<- c]
 rw[<- d];rw[List.getD_eq_getElem?_getD] at hm
 cases hq:Q[apl Q k]? with
 | none=>rw[hq] at hm;simp at hm
 | some p=>rw[hq] at hm;exact List.mem_flatten.2 ⟨p,List.mem_of_getElem? hq,hm⟩
theorem CJ(h:kI Q)(k:List Int):(if ia Q k then yd Q k else [])=(look Q.flatten k).getD []:=by
 cases hh:ia Q k
 ·have:=j1 h k;rw[hh] at this
  cases hl:look Q.flatten k with
  | none=>rfl
  | some x=>rw[hl] at this;cases this
 ·have hm:=Es hh;obtain⟨X,Y,e⟩:=List.append_of_mem hm;have c:=qP (by have:=h.flat;rw[e] at this;exact this);rw[e,c.oT];rfl
theorem jQ{E:aI}(h:look E k=some x):(k,x)∈E:=by
 unfold look at h;obtain⟨a,c,rfl⟩:=Option.map_eq_some_iff.1 h;have d:=List.mem_of_find?_eq_some c;have b:=List.find?_some c;simp only[decide_eq_true_eq] at b;rw[<- b];exact d
theorem wo{E:aI}(h:ff E)(k v:List Int):(put E k v).length<=E.length+1:=by
 obtain⟨X,Y,c,⟨rfl,_⟩ | ⟨x,rfl,_⟩⟩:=h.cut k
 ·rw[c.yD];simp;omega
 ·rw[c.xW];simp
theorem wR{E:aI}(k:List Int):(rem E k).length<=E.length:=List.length_filter_le _ _
end
end Kv
end
section
namespace Pg
open Go.RowKit Go.Lib
section
variable {L:List Pg}{N g b:Nat}{w w':World}{F D:Nat->Prop}{Q:List (List KV)}{P:List (List En)}{p:En->Prop}{kv:Value}{k:List Int}
structure Mp(w:World)(F D:Nat->Prop)(g:Nat)(Q:List (List KV))(N:Nat):Prop where
 ex:∃ L,abs (ens L)=Q/\bU w F D g L/\Ord (ens L)/\Shq (ens L)/\(ens L).flatten.length<=N/\∀ es∈ens L,∀ e∈es,e.kl.length<=1000000000/\e.vl.length<=1000000000
theorem vW:∀ {P:List (List En)},(∀ es∈P,1<=es.length)->P.length<=P.flatten.length
 | [],_=>Nat.le_refl _
 | a :: P,h=>by
  have h1:=h a List.mem_cons_self;have b:=vW (P:=P) fun es he=>h es (List.mem_cons_of_mem _ he)
  simp only[List.flatten_cons,List.length_append,List.length_cons];omega
theorem Shq.few(h:Shq (ens L))(hN:(ens L).flatten.length<=N)(hb:N<=100000000):L.length<=100000000:=by
 have h1:=vW fun es he=>(h.one es he).1
 have h2:(ens L).length=L.length:=by simp[ens]
 omega
theorem Mp.lt(M:Mp w F D g Q N)(hb:F b):b < w.heap.size:=by
 obtain⟨L,_,A,_⟩:=M.ex;exact A.lt hb
theorem Mp.noU(M:Mp w F D g Q N)(hb:F b)(cs:List Value):¬ Blk w b cs 5:=by
 obtain⟨L,_,A,_⟩:=M.ex;exact A.noU hb cs
theorem Mp.keep(M:Mp w F D g Q N)(hb:Below w.heap.size w w'):Mp w' F D g Q N:=by
 obtain⟨L,e,A,r⟩:=M.ex;exact⟨L,e,A.keep hb,r⟩
theorem Mp.same(M:Mp w F D g Q N)(c:∀ b,F b->w'.heap[b]?=w.heap[b]?)(a:∀ b,b < w.heap.size->D b->(∃ cs,Blk w b cs 5)->w'.heap[b]?=w.heap[b]?):Mp w' F D g Q N:=by
 obtain⟨L,e,A,r⟩:=M.ex;exact⟨L,e,A.same c a,r⟩
theorem Mp.chg{F':Nat->Prop}(M:Mp w F D g Q N)(hc:Chg F' w w')(h1:∀ b,F' b->¬ F b)(h2:∀ b,F' b->∀ cs,¬ Blk w b cs 5):Mp w' F D g Q N:=by
 obtain⟨L,e,A,r⟩:=M.ex;exact⟨L,e,A.chg hc h1 h2,r⟩
theorem Mp.mono{D':Nat->Prop}(M:Mp w F D g Q N)(hD:∀ b,b < w.heap.size->D b->D' b):Mp w F D' g Q N:=by
 obtain⟨L,e,A,r⟩:=M.ex;exact⟨L,e,A.mono hD,r⟩
theorem Mp.more{N':Nat}(M:Mp w F D g Q N)(h:N<=N'):Mp w F D g Q N':=by
 obtain⟨L,e,A,O,S,n,r⟩:=M.ex;exact⟨L,e,A,O,S,by omega,r⟩
theorem Mp.ord(M:Mp w F D g Q N):kI Q:=by
 obtain⟨L,e,A,O,_⟩:=M.ex;exact⟨_,e,O⟩
theorem Mp.len(M:Mp w F D g Q N):Q.flatten.length<=N:=by
 obtain⟨L,rfl,A,O,S,n,r⟩:=M.ex;rw[dI,List.length_map];exact n
theorem Mp.small(M:Mp w F D g Q N):∀ x∈Q.flatten,x.1.length<=1000000000/\x.2.length<=1000000000:=by
 obtain⟨L,rfl,A,O,S,n,r⟩:=M.ex;intro x hx;rw[dI] at hx;obtain⟨e,he,rfl⟩:=List.mem_map.1 hx;obtain⟨es,b,a⟩:=List.mem_flatten.1 he;exact r es b e a
theorem oh:(∀ es∈P,∀ e∈es,p e)<->∀ e∈P.flatten,p e :=
 ⟨fun h e he=>by obtain⟨es,h1,h2⟩:=List.mem_flatten.1 he;exact h es h1 e h2,fun h es he e hee=>h e (List.mem_flatten.2 ⟨es,he,hee⟩)⟩
theorem mnew:Calls Tryz.prog 42 #[] w fun e w'=>e=.returned (.pointer (some ⟨w.heap.size,0,none⟩))/\Mp w' (· = w.heap.size) (fun _=>False) w.heap.size [] 0/\Below w.heap.size w w' :=
 Dd.mono fun e w' ⟨g,he,a,A,B⟩=>by
  subst a;exact⟨he,⟨[],rfl,A,⟨fun _ h=>by simp[ens] at h,List.Pairwise.nil⟩,Shq.nil,Nat.le_refl _,fun _ h=>by simp[ens] at h⟩,B⟩
theorem mset{vv:Value}{v:List Int}(M:Mp w F D g Q N)(f:By w kv k)(hv:By w vv v)(a:k.length<=1000000000)(c:v.length<=1000000000)(j:N<=100000000) :
  Calls Tryz.prog 97 #[.pointer (some ⟨g,0,none⟩),kv,vv] w fun e w'=>e=.returned (.bool (!ia Q k))/\∃ F',Mp w' F' (fun b=>D b\/w.heap.size<=b) g (xX Q k v) (N+1)/\(∀ b,F' b->F b\/w.heap.size<=b)/\Chg F w w':=by
 obtain⟨L,rfl,A,O,S,n,r⟩:=M.ex;refine(Dp A O (fun es he=>(S.one es he).2) (S.few n j) f hv a c).mono fun e w' ⟨he,F',d,nk,nv,e1,i,hF,hc⟩=>?_
 refine⟨by rw[gO];exact he,F',⟨d,by rw[e1,rp],i,by rw[e1];exact O.set _,by rw[e1];exact S.set O _,?_,?_⟩,hF,hc⟩
 ·rw[e1,DU O];split<;>omega
 ·rw[e1];rw[oh] at r ⊢;intro x hx
  cases hh:has (ens L) k
  ·obtain⟨X,Y,e2,e3,_⟩:=gP O (e:=⟨nk,k,nv,v⟩) hh;rw[e3] at hx;rw[e2] at r;rcases List.mem_append.1 hx with h | h
   ·exact r x (List.mem_append_left _ h)
   ·rcases List.mem_cons.1 h with h | h
    ·subst h;exact⟨a,c⟩
    ·exact r x (List.mem_append_right _ h)
  ·obtain⟨X,y,Y,e2,hy,e3⟩:=gX O (e:=⟨nk,k,nv,v⟩) hh;rw[e3] at hx;rw[e2] at r;rcases List.mem_append.1 hx with h | h
   ·exact r x (List.mem_append_left _ h)
   ·rcases List.mem_cons.1 h with h | h
    ·subst h;exact⟨by simp only;rw[hy];exact a,c⟩
    ·exact r x (List.mem_append_right _ (List.mem_cons_of_mem _ h))
theorem mdel(M:Mp w F D g Q N)(c:By w kv k)(f:N<=100000000) :
  Calls Tryz.prog 113 #[.pointer (some ⟨g,0,none⟩),kv] w fun e w'=>e=.returned (.bool (ia Q k))/\∃ F',Mp w' F' D g (uF Q k) N/\(∀ b,F' b->F b\/w.heap.size<=b)/\Chg F w w':=by
 obtain⟨L,rfl,A,O,S,n,r⟩:=M.ex;refine(uT A O (fun es he=>(S.one es he).2) (S.few n f) c).mono fun e w' ⟨he,F',a,e1,d,hF,hc⟩=>?_
 refine⟨by rw[gO];exact he,F',⟨a,by rw[e1,vZ],d,by rw[e1];exact O.del _,by rw[e1];exact S.del O _,?_,?_⟩,hF,hc⟩
 ·rw[e1]
  cases hh:has (ens L) k
  ·rw[sW hh];exact n
  ·obtain⟨X,x,Y,e2,_,e3⟩:=oC O hh;rw[e2] at n;rw[e3];simp only[List.length_append,List.length_cons] at n ⊢;omega
 ·rw[e1];rw[oh] at r ⊢;intro x hx
  cases hh:has (ens L) k
  ·rw[sW hh] at hx;exact r x hx
  ·obtain⟨X,y,Y,e2,_,e3⟩:=oC O hh;rw[e3] at hx;rw[e2] at r;rcases List.mem_append.1 hx with h | h
   ·exact r x (List.mem_append_left _ h)
   ·exact r x (List.mem_append_right _ (List.mem_cons_of_mem _ h))
theorem mget(M:Mp w F D g Q N)(c:By w kv k)(b:N<=100000000) :
  Calls Tryz.prog 165 #[.pointer (some ⟨g,0,none⟩),kv] w fun e w'=>∃ v,e=.returned (.tuple #[v,.bool (ia Q k)])/\OB w' (w.heap.size <= ·) v (if ia Q k then yd Q k else [])/\Below w.heap.size w w':=by
 obtain⟨L,rfl,A,O,S,n,r⟩:=M.ex;rw[gO,Dz];exact CO A O (fun es he=>by have:=(S.one es he).2;omega) (S.few n b) c fun p a e he=>(r p.es (List.mem_map.2 ⟨p,a,rfl⟩) e he).2
end
end Pg
end
section
namespace Kv
open Go.RowKit Go.Lib Pg
section
variable {V D V' D' K:Nat->Prop}{w w':World}{v c jv:Value}{l:List Int}{g b n N:Nat}{cs cs':List Value}{oj:Option Nat}{E:aI}{W:List aI}
theorem KF:Kd Tryz.prog 271 1 1 8 .nilFunc:=⟨by kernel_rfl,by kernel_rfl,rfl,by simp[Value.cells,Value.oneCell'],by decide⟩
structure oF(w:World)(V D:Nat→Prop)(g:Nat)(u:Und)(c:Value):Prop where
  short:u.1.length≤1000000000∧∀ x,u.2=some x→x.length≤1000000000
  ex:∃ s1 s2 kv,V s1∧V s2∧Blk w s1 [.pointer (some ⟨g,0,none⟩)] 37∧Blk w s2 [kv] 87∧OB w D kv u.1 ∧
    ((u.2 = none ∧ c = .func (.func 194) #[] #[.pointer (some ⟨s1, 0, none⟩), .pointer (some ⟨s2, 0, none⟩)]) ∨
     ∃ s3 vv x,V s3∧Blk w s3 [vv] 87∧OB w D vv x∧u.2=some x∧c=.func (.func 195) #[] #[.pointer (some ⟨s1,0,none⟩),.pointer (some ⟨s2,0,none⟩),.pointer (some ⟨s3,0,none⟩)])
structure l4(V D:Nat->Prop)(w w':World):Prop where
 var:∀ b cs t,V b->Blk w b cs t->(t=37\/t=87)->w'.heap[b]?=w.heap[b]?
 byt:∀ b,b < w.heap.size->D b->(∃ cs,Blk w b cs 5)->w'.heap[b]?=w.heap[b]?
theorem l4.ob(h:l4 V D w w')(O:OB w D v l):OB w' D v l :=
 ⟨O.oct,O.ex.imp id (by
  rintro⟨b,c,e,hd,hR⟩
  exact⟨b,c,e,hd,hR.same (h.byt b hR.lt hd hR.kind)⟩)⟩
theorem oF.stay{u:Und}(h:oF w V D g u c)(hs:l4 V D w w'):oF w' V D g u c:=by
 obtain⟨s1,s2,kv,v1,v2,a,b,ok,r⟩:=h.ex;refine⟨h.short,s1,s2,kv,v1,v2,a.same (hs.var _ _ _ v1 a (.inl rfl)),b.same (hs.var _ _ _ v2 b (.inr rfl)),hs.ob ok,r.imp id ?_⟩;rintro⟨s3,vv,x,v3,d,f,e⟩;exact⟨s3,vv,x,v3,d.same (hs.var _ _ _ v3 d (.inr rfl)),hs.ob f,e⟩
theorem oF.mono{u:Und}(h:oF w V D g u c)(a:∀ b,V b->V' b)(d:∀ b,b < w.heap.size->D b->D' b):oF w V' D' g u c:=by
 obtain⟨s1,s2,kv,v1,v2,f,i,ok,r⟩:=h.ex;refine⟨h.short,s1,s2,kv,a _ v1,a _ v2,f,i,ok.mono d,r.imp id ?_⟩;rintro⟨s3,vv,x,v3,k,j,e⟩;exact⟨s3,vv,x,a _ v3,k,j.mono d,e⟩
theorem oF.one{u:Und}(h:oF w V D g u c):c.oneCell'=true:=by
 obtain⟨s1,s2,kv,v1,v2,b1,b2,ok,⟨_,rfl⟩ | ⟨s3,vv,x,v3,b3,ov,_,rfl⟩⟩:=h.ex<;>rfl
def jj(w:World)(V D:Nat->Prop)(g:Nat)(U:List Und)(cs:List Value):Prop:=cs.length=U.length/\∀ (i:Nat) u c,U[i]?=some u->cs[i]?=some c->oF w V D g u c
theorem jj.stay{U:List Und}(h:jj w V D g U cs)(hs:l4 V D w w'):jj w' V D g U cs:=⟨h.1,fun i u c hu hc=>(h.2 i u c hu hc).stay hs⟩
theorem jj.mono{U:List Und}(h:jj w V D g U cs)(hV:∀ b,V b->V' b)(hD:∀ b,b < w.heap.size->D b->D' b):jj w V' D' g U cs:=⟨h.1,fun i u c hu hc=>(h.2 i u c hu hc).mono hV hD⟩
theorem jj.app{U a:List Und}(h:jj w V D g U cs)(b:jj w V D g a cs'):jj w V D g (U ++ a) (cs ++ cs'):=by
 refine⟨by rw[List.length_append,List.length_append,h.1,b.1],fun i u c hu hc=>?_⟩;by_cases hi:i < U.length
 ·rw[List.getElem?_append_left hi] at hu;rw[List.getElem?_append_left (by rw[h.1];exact hi)] at hc;exact h.2 i u c hu hc
 ·rw[List.getElem?_append_right (by omega)] at hu;rw[List.getElem?_append_right (by rw[h.1];omega),h.1] at hc;exact b.2 _ u c hu hc
theorem jj.one{U:List Und}(h:jj w V D g U cs):∀ c∈cs,c.oneCell'=true:=fun c hc=>by
 obtain⟨i,hi⟩:=List.getElem?_of_mem hc;have a:=(List.getElem?_eq_some_iff.1 hi).1;exact(h.2 i (U[i]'(by rw[<- h.1];exact a)) c (List.getElem?_eq_getElem _) hi).one
structure Jr where
 U:List Und
 v:Value
 o:Option Nat
def JrA(w:World)(V D:Nat->Prop)(g:Nat)(j:Jr):Prop:=∃ cs,jj w V D g j.U cs/\((j.o=none/\j.v=.slice none 0 0/\j.U=[])\/∃ b c,j.o=some b/\j.v=.slice (some ⟨b,0,none⟩) j.U.length c/\Rw w 1 1 b j.U.length c cs)
theorem JrA.stay{j:Jr}(h:JrA w V D g j)(hs:l4 V D w w')(a:∀ b,j.o=some b->w'.heap[b]?=w.heap[b]?):JrA w' V D g j:=by
 obtain⟨cs,hc,r⟩:=h;refine⟨cs,hc.stay hs,r.imp id ?_⟩;rintro⟨b,c,e1,e2,d⟩;exact⟨b,c,e1,e2,d.same (a b e1)⟩
theorem JrA.mono{j:Jr}(h:JrA w V D g j)(hV:∀ b,V b->V' b)(hD:∀ b,b < w.heap.size->D b->D' b):JrA w V' D' g j:=by
 obtain⟨cs,hc,r⟩:=h;exact⟨cs,hc.mono hV hD,r⟩
theorem JrA.kind{j:Jr}(h:JrA w V D g j)(hb:j.o=some b):∃ cs,Blk w b cs 1:=by
 obtain⟨cs,hc,⟨e,_⟩ | ⟨b',c,e,_,hR⟩⟩:=h
 ·rw[hb] at e;cases e
 ·rw[hb] at e;cases e;exact hR.kind
structure JnA(w:World)(V D:Nat->Prop)(g:Nat)(jv:Value)(T:List Jr)(oj:Option Nat):Prop where
 row:(oj=none/\jv=.slice none 0 0/\T=[])\/∃ b c,oj=some b/\jv=.slice (some ⟨b,0,none⟩) T.length c/\Rw w 274 1 b T.length c (T.map Jr.v)
 each:∀ j∈T,JrA w V D g j
 apart:(T.filterMap Jr.o).Nodup
theorem JnA.stay{T:List Jr}(h:JnA w V D g jv T oj)(hs:l4 V D w w')(d:∀ b,oj=some b->w'.heap[b]?=w.heap[b]?)(hb:∀ j∈T,∀ b,j.o=some b->w'.heap[b]?=w.heap[b]?):JnA w' V D g jv T oj :=
 ⟨h.row.imp id (by rintro⟨b,c,e1,e2,e⟩;exact⟨b,c,e1,e2,e.same (d b e1)⟩),fun j a=>(h.each j a).stay hs (hb j a),h.apart⟩
theorem JnA.mono{T:List Jr}(h:JnA w V D g jv T oj)(hV:∀ b,V b->V' b)(hD:∀ b,b < w.heap.size->D b->D' b):JnA w V' D' g jv T oj :=
 ⟨h.row,fun j hj=>(h.each j hj).mono hV hD,h.apart⟩
theorem JnA.kind{T:List Jr}(h:JnA w V D g jv T oj)(hb:oj=some b):∃ cs,Blk w b cs 274:=by
 rcases h.row with⟨e,_⟩ | ⟨b',c,e,_,hR⟩
 ·rw[hb] at e;cases e
 ·rw[hb] at e;cases e;exact hR.kind
def tot(T:List Jr):Nat:=(T.map fun j=>j.U.length).sum
structure Own(w:World)(K F V:Nat->Prop)(g:Nat)(T:List Jr)(oj:Option Nat):Prop where
 top:K g
 map:∀ b,F b->K b
 var:∀ b,V b->K b
 jrn:∀ b,oj=some b->K b
 bck:∀ j∈T,∀ b,j.o=some b->K b
 kind:∀ b,K b->∃ cs t,Blk w b cs t/\t≠5
 qF:¬ F g
 uH:∀ b,V b->¬ F b
 rU:∀ b,oj=some b->¬ F b
 oJ:∀ j∈T,∀ b,j.o=some b->¬ F b
 vk:∀ b,V b->∃ cs t,Blk w b cs t/\(t=37\/t=87)
structure SA(w:World)(K D:Nat->Prop)(g:Nat)(E:aI)(W:List aI)(n N:Nat):Prop where
 ex:∃ F V m Q jv T oj,Blk w g [.pointer (some ⟨m,0,none⟩),jv,.int .i64 n] 85/\Mp w F D m Q N/\Q.flatten=E/\JnA w V D g jv T oj/\ly (T.reverse.map Jr.U) W E/\tot T+E.length<=N/\T.length<=16/\Own w K F V g T oj
theorem SA.lt(h:SA w K D g E W n N)(hb:K b):b < w.heap.size:=by
 obtain⟨F,V,m,Q,jv,T,oj,_,_,_,_,_,_,_,O⟩:=h.ex;obtain⟨cs,t,h,_⟩:=O.kind b hb;exact h.lt
theorem SA.top(h:SA w K D g E W n N):K g:=by
 obtain⟨F,V,m,Q,jv,T,oj,_,_,_,_,_,_,_,O⟩:=h.ex;exact O.top
theorem Own.same{F:Nat->Prop}{T:List Jr}(O:Own w K F V g T oj)(d:∀ b,K b->w'.heap[b]?=w.heap[b]?):Own w' K F V g T oj :=
 ⟨O.top,O.map,O.var,O.jrn,O.bck,fun b hb=>by
  obtain⟨cs,t,a,c⟩:=O.kind b hb;exact⟨cs,t,a.same (d b hb),c⟩,O.qF,O.uH,O.rU,O.oJ,fun b hv=>by
  obtain⟨cs,t,a,c⟩:=O.vk b hv
  exact⟨cs,t,a.same (d b (O.var b hv)),c⟩⟩
theorem SA.same(h:SA w K D g E W n N)(a:∀ b,K b->w'.heap[b]?=w.heap[b]?)(d:∀ b,b < w.heap.size->D b->(∃ cs,Blk w b cs 5)->w'.heap[b]?=w.heap[b]?):SA w' K D g E W n N:=by
 obtain⟨F,V,m,Q,k,T,p,hb,hm,he,o,i,f,l,O⟩:=h.ex
 have hs:l4 V D w w':=⟨fun b _ _ hv _ _=>a b (O.var b hv),d⟩
 exact⟨F,V,m,Q,k,T,p,hb.same (a g O.top),hm.same (fun b hF=>a b (O.map b hF)) d,he,o.stay hs (fun b e=>a b (O.jrn b e)) (fun j c b e=>a b (O.bck j c b e)),i,f,l,O.same a⟩
theorem SA.keep(h:SA w K D g E W n N)(hb:Below w.heap.size w w'):SA w' K D g E W n N:=h.same (fun b hK=>hb.block b (h.lt hK)) (fun b hl _ _=>hb.block b hl)
theorem SA.chg{a:Nat->Prop}(h:SA w K D g E W n N)(hc:Chg a w w')(j:∀ b,a b->¬ K b)(e:∀ b,a b->∀ cs,¬ Blk w b cs 5):SA w' K D g E W n N :=
 h.same (fun b c=>hc.same b (h.lt c) fun f=>j b f c) (fun b d _ i=>hc.same b d fun f=>by obtain⟨cs,k⟩:=i;exact e b f cs k)
theorem SA.mono(h:SA w K D g E W n N)(a:∀ b,b < w.heap.size->D b->D' b):SA w K D' g E W n N:=by
 obtain⟨F,V,m,Q,i,T,j,hb,hm,he,f,e,d,c,O⟩:=h.ex;exact⟨F,V,m,Q,i,T,j,hb,hm.mono a,he,f.mono (fun _ h=>h) a,e,d,c,O⟩
theorem SA.more{N':Nat}(h:SA w K D g E W n N)(a:N<=N'):SA w K D g E W n N':=by
 obtain⟨F,V,m,Q,f,T,i,hb,hm,he,e,d,c,b,O⟩:=h.ex;exact⟨F,V,m,Q,f,T,i,hb,hm.more a,he,e,d,Nat.le_trans c a,b,O⟩
theorem SA.size(h:SA w K D g E W n N):E.length<=N:=by
 obtain⟨F,V,m,Q,jv,T,oj,hb,hm,rfl,_⟩:=h.ex;exact hm.len
theorem SA.small(h:SA w K D g E W n N):∀ x∈E,x.1.length<=1000000000/\x.2.length<=1000000000:=by
 obtain⟨F,V,m,Q,jv,T,oj,hb,hm,rfl,_⟩:=h.ex;exact hm.small
end
end Kv
end
section
namespace Kv
open Go.RowKit Go.Lib Pg
attribute [local go_sem] Oper.semAt_some
section
variable {w w':World}{K D F V:Nat->Prop}{g n N m:Nat}{E:aI}{W:List aI}{Q:List (List KV)}{jv kv:Value}{T:List Jr}{oj:Option Nat}{x:Int}{cs:List Value}{ao:Option Addr}{k:List Int}
structure SX(w:World)(K D F V:Nat->Prop)(g m:Nat)(Q:List (List KV))(jv:Value)(T:List Jr)(oj:Option Nat)(n N:Nat):Prop where
 blk:Blk w g [.pointer (some ⟨m,0,none⟩),jv,.int .i64 n] 85
 map:Mp w F D m Q N
 jn:JnA w V D g jv T oj
 tot:tot T+Q.flatten.length<=N
 len:T.length<=16
 own:Own w K F V g T oj
theorem SA.open(h:SA w K D g E W n N):∃ F V m Q jv T oj,SX w K D F V g m Q jv T oj n N/\Q.flatten=E/\ly (T.reverse.map Jr.U) W E:=by
 obtain⟨F,V,m,Q,jv,T,oj,hb,hm,he,d,c,b,a,O⟩:=h.ex;exact⟨F,V,m,Q,jv,T,oj,⟨hb,hm,d,by rw[he];exact b,a,O⟩,he,c⟩
theorem SX.shut(h:SX w K D F V g m Q jv T oj n N)(he:Q.flatten=E)(a:ly (T.reverse.map Jr.U) W E):SA w K D g E W n N :=
 ⟨F,V,m,Q,jv,T,oj,h.blk,h.map,he,h.jn,a,by have:=h.tot;rw[he] at this;exact this,h.len,h.own⟩
theorem l9{x:Nat}{t:TypeId}(hx:Blk w x cs t)(j:t≠37)(f:t≠87)(h:t≠5)(hc:Chg (·=x) w w'):l4 V D w w' :=
 ⟨fun b a l _ hb g=>hc.same b hb.lt (fun e=>by
  have c:b=x:=e;subst c;have:=(hx.eq hb).2;subst this;exact g.elim j f),fun b d _ i=>hc.same b d (fun e=>by
  have c:b=x:=e;subst c;obtain⟨a,k⟩:=i
  exact h (hx.eq k).2)⟩
theorem Own.chg1{x:Nat}(O:Own w K F V g T oj)(hs:l4 V D w w')(hc:Chg (·=x) w w'){t:TypeId}(hx:Blk w' x cs t)(a:t≠5):Own w' K F V g T oj :=
 ⟨O.top,O.map,O.var,O.jrn,O.bck,fun b hb=>by
  by_cases e:b=x
  ·subst e;exact⟨cs,t,hx,a⟩
  ·obtain⟨f,h,c,d⟩:=O.kind b hb;exact⟨f,h,c.chg hc e,d⟩,O.qF,O.uH,O.rU,O.oJ,fun b hv=>by
  obtain⟨cs,t,c,a⟩:=O.vk b hv
  exact⟨cs,t,c.same (hs.var b cs t hv c a),a⟩⟩
theorem SX.top{d:Nat}(h:SX w K D F V g m Q jv T oj n N)(hc:Chg (·=g) w w')(hb:Blk w' g [.pointer (some ⟨m,0,none⟩),jv,.int .i64 d] 85):SX w' K D F V g m Q jv T oj d N :=
 ⟨hb,h.map.chg hc (fun b e hF=>h.own.qF (by have c:b=g:=e; exact c▸hF)) (fun b e cs k=>by
   have c:b=g:=e;subst c
   exact absurd (h.blk.eq k).2 (by decide)),h.jn.stay (l9 h.blk (by decide) (by decide) (by decide) hc)
   (fun b e=>by
    obtain⟨cs,k⟩:=h.jn.kind e
    exact hc.same b k.lt (fun c=>by
     have a:b=g:=c;subst a
     exact absurd (h.blk.eq k).2 (by decide)))
   (fun j f b e=>by
    obtain⟨cs,k⟩:=(h.jn.each j f).kind e
    exact hc.same b k.lt (fun c=>by
     have a:b=g:=c;subst a
     exact absurd (h.blk.eq k).2 (by decide))),h.tot,h.len,h.own.chg1 (l9 (D:=D) h.blk (by decide) (by decide) (by decide) hc) hc hb (by decide)⟩
theorem SX.keep(h:SX w K D F V g m Q jv T oj n N)(hb:Below w.heap.size w w'):SX w' K D F V g m Q jv T oj n N:=by
 have a:∀ b,K b->w'.heap[b]? = w.heap[b]? := fun b f=>by
  obtain⟨cs,t,k,_⟩:=h.own.kind b f;exact hb.block b k.lt
 exact⟨h.blk.keep hb,h.map.keep hb,h.jn.stay ⟨fun b _ _ _ k _=>hb.block b k.lt,fun b c _ _=>hb.block b c⟩ (fun b e=>a b (h.own.jrn b e)) (fun j d b e=>a b (h.own.bck j d b e)),h.tot,h.len,h.own.same a⟩
theorem vz{a:Addr}(hc:w.cell? a=some (.int .i64 x))(b:w.frozen? a=false)(h0:0<=x)(c:x<=4000000000000000000) :
  (callFunc 193 #[.pointer (some a),.int .i64 1]).run Tryz.prog w=.ok (.value (.int .i64 (x+1))) (w.setCell a (.int .i64 (x+1))) :=
 run_call_add Tryz.func193 (by kernel_rfl) (by kernel_rfl) (by kernel_rfl) .i64 (by kernel_rfl) hc b (by
  have e:IntKind.i64.wrap (x+1)=x+1:=by rw[IntKind.wrap_i64];omega
  simp[Op.intArith,e])
theorem CR(hc:w.cell? ⟨g,2,none⟩=some (.int .i64 x))(d:w.frozen? ⟨g,2,none⟩=false)(h0:0<=x)(c:x<=4000000000000000000) :
  Calls Tryz.prog 143 #[.pointer (some ⟨g,2,none⟩),.int .i64 1] w fun e w'=>e=.returned (.int .i64 (x+1))/\w'=w.setCell ⟨g,2,none⟩ (.int .i64 (x+1)):=by
 have b:=vz hc d h0 c;go_enter Tryz.func143,Tryz.ntmps143;go_wp2_with (simp only[b]);go_ret;exact⟨rfl,rfl⟩
theorem kW(hc:w.cell? ⟨g,2,none⟩=some (.int .i64 x))(b:w.frozen? ⟨g,2,none⟩=false)(h0:0<=x)(c:x<=4000000000000000000) :
  Calls Tryz.prog 95 #[.pointer (some ⟨g,0,none⟩)] w fun e w'=>e=.returned (.tuple #[])/\w'=w.setCell ⟨g,2,none⟩ (.int .i64 (x+1)):=by
 have u:=CR hc b h0 c;clear hc b;go_enter Tryz.func95,Tryz.ntmps95;go_wp2_with (go_at_call 143;refine u.mono ?_;rintro e d ⟨rfl,rfl⟩);go_end0;exact⟨rfl,rfl⟩
theorem gw(h:SX w K D F V g m Q jv T oj n N)(hn:n<=4000000000000000000) :
  Calls Tryz.prog 95 #[.pointer (some ⟨g,0,none⟩)] w fun e w'=>e=.returned (.tuple #[])/\SX w' K D F V g m Q jv T oj (n+1) N/\Chg (·=g) w w':=by
 refine(kW (h.blk.cell (i:=2) rfl) (h.blk.free 2) (by omega) (by omega)).mono ?_
 rintro e w' ⟨rfl,rfl⟩
 have hc:Chg (·=g) w (w.setCell ⟨g,2,none⟩ (.int .i64 ((n:Int)+1))):=(Chg.refl (·=g) w).cell (.inl rfl) _;refine⟨rfl,h.top hc ?_,hc⟩;have:=h.blk.setCell (i:=2) (.int .i64 ((n:Int)+1));exact this
theorem oY{c:Nat}{b nv:Value}(h:Blk w g [b,.slice ao n c,nv] 85) :
  Calls Tryz.prog 144 #[.pointer (some ⟨g,0,none⟩)] w fun e w'=>e=.returned (.int .i64 n)/\w'=w:=by
 have c1:=h.cell (i:=1) rfl;clear h;go_enter Tryz.func144,Tryz.ntmps144;go_wp2;go_ret;exact⟨rfl,rfl⟩
theorem JnA.shape(h:JnA w V D g jv T oj):∃ ao c,jv=.slice ao T.length c:=by
 rcases h.row with⟨_,e,rfl⟩ | ⟨b,c,_,e,_⟩
 ·exact⟨none,0,e⟩
 ·exact⟨_,c,e⟩
theorem zE(h:SX w K D F V g m Q jv T oj n N) :
  Calls Tryz.prog 144 #[.pointer (some ⟨g,0,none⟩)] w fun e w'=>e=.returned (.int .i64 T.length)/\w'=w:=by
 obtain⟨a,c,e⟩:=h.jn.shape;have hb:=h.blk;rw[e] at hb;exact oY hb
theorem snew:Calls Tryz.prog 16 #[] w fun e w'=>∃ g K,e=.returned (.pointer (some ⟨g,0,none⟩))/\SA w' K (fun _=>False) g [] [] 0 0/\(∀ b,K b->w.heap.size<=b)/\Below w.heap.size w w':=by
 have u:=mnew (w:=w);go_enter Tryz.func16,Tryz.ntmps16;go_wp2_with (go_at_call 42;refine u.mono ?_;rintro e c ⟨rfl,M,B⟩);go_ret;have d:=M.lt (b:=w.heap.size) rfl;have al:=ae c (.cells #[.pointer (some ⟨w.heap.size,0,none⟩),.slice none 0 0,.int .i64 0] 85);have bl:=aE c [.pointer (some ⟨w.heap.size,0,none⟩),.slice none 0 0,.int .i64 0] 85;have M2:=M.keep al;refine⟨c.heap.size,fun b=>b=w.heap.size\/b=c.heap.size,rfl,⟨_,fun _=>False,_,_,_,[],none,bl,M2,rfl,⟨.inl ⟨rfl,rfl,rfl⟩,fun _ h=>by simp at h,List.nodup_nil⟩,trivial,by decide,by decide,?_⟩,fun b hb=>by have:=B.size;omega,aB B al⟩;refine⟨.inr rfl,fun b hb=>.inl hb,fun _ h=>h.elim,(fun _ h=>by cases h),(fun _ h=>by simp at h),fun b hb=>?_,(fun h=>by have f:c.heap.size=w.heap.size:=h;omega),fun _ h=>h.elim,(fun _ h=>by cases h),(fun _ h=>by simp at h),fun _ h=>h.elim⟩;rcases hb with rfl | rfl
 ·obtain⟨L,_,A,_⟩:=M2.ex;exact A.kind _ rfl
 ·exact⟨_,_,bl,by decide⟩
theorem jU(h:SX w K D F V g m Q jv T oj n N)(a:By w kv k)(b:N<=100000000) :
  Calls Tryz.prog 165 #[.pointer (some ⟨m,0,none⟩),kv] w fun e w'=>∃ v,e=.returned (.tuple #[v,.bool (look Q.flatten k).isSome])/\OB w' (w.heap.size <= ·) v ((look Q.flatten k).getD [])/\Below w.heap.size w w':=by
 have u:=mget h.map a b;rw[CJ h.map.ord,j1 h.map.ord] at u;exact u
theorem uO(h:SX w K D F V g m Q jv T oj n N)(b:By w kv k)(d:N<=100000000) :
  Calls Tryz.prog 112 #[.pointer (some ⟨g,0,none⟩),kv] w fun e w'=>e=.returned (.bool (look Q.flatten k).isSome)/\Below w.heap.size w w':=by
 have c0:=h.blk.cell (i:=0) rfl;have u:=jU h b d;obtain⟨j,c,rfl,-⟩:=id b.ex;generalize (look Q.flatten k).isSome=r at *;generalize (look Q.flatten k).getD []=L at *;clear h b;go_enter Tryz.func112,Tryz.ntmps112;go_wp2_with (go_at_call 165;refine u.mono ?_;rintro e f ⟨v,rfl,O,B⟩;obtain⟨a1,c1,rfl,-⟩:=id O.by.ex);go_ret;exact⟨rfl,B⟩
end
end Kv
end
section
namespace Kv
open Go.RowKit Go.Lib Pg
attribute [local go_sem] Oper.semAt_some
section
variable {w w':World}{K D F V D':Nat->Prop}{g m n N o:Nat}{Q Q':List (List KV)}{jv v u kv:Value}{T:List Jr}{oj:Option Nat}{ao:Option Addr}
theorem aD{p:Prop}(h:p):Hid p:=h
theorem SX.vars{S:Nat->Prop}(h:SX w K D F V g m Q jv T oj n N)(f:∀ b,S b->¬ F b)(a:∀ b,S b->∃ cs t,Blk w b cs t/\(t=37\/t=87))(c:∀ b,b < w.heap.size->D b->D' b) :
  SX w (fun b=>K b\/S b) D' F (fun b=>V b\/S b) g m Q jv T oj n N :=
 ⟨h.blk,h.map.mono c,h.jn.mono (fun _=>.inl) c,h.tot,h.len,.inl h.own.top,fun b hb=>.inl (h.own.map b hb),fun b hb=>hb.imp (h.own.var b) id,fun b hb=>.inl (h.own.jrn b hb),fun j d b hb=>.inl (h.own.bck j d b hb),fun b hb=>hb.elim (h.own.kind b) (fun hs=>by
  obtain⟨cs,t,k,e⟩:=a b hs
  exact⟨cs,t,k,by rcases e with e | e<;>subst e<;>decide⟩),h.own.qF,fun b hb=>hb.elim (h.own.uH b) (f b),h.own.rU,h.own.oJ,fun b hb=>hb.elim (h.own.vk b) (a b)⟩
theorem SX.mapped{F':Nat->Prop}{N':Nat}(h:SX w K D F V g m Q jv T oj n N)(r:Kv.tot T+Q'.flatten.length<=N')(l:Mp w' F' D' m Q' N')(hF:∀ b,F' b->F b\/w.heap.size<=b)(p:∀ b,D b->D' b)(hc:Chg F w w') :
  SX w' (fun b=>(K b/\¬ F b)\/F' b) D' F' V g m Q' jv T oj n N':=by
 have i:∀ b,K b->b < w.heap.size:=fun b hb=>by obtain⟨cs,t,k,_⟩:=h.own.kind b hb;exact k.lt
 have no:∀ b,K b->¬ F b->¬ F' b:=fun b hb hn hf=>by
  rcases hF b hf with o | o
  ·exact hn o
  ·have:=i b hb;omega
 have hs:l4 V D w w':=⟨fun b _ _ hv k _=>hc.same b k.lt (h.own.uH b hv),fun b q _ k=>hc.same b q (fun f=>by obtain⟨cs,k⟩:=k;exact h.map.noU f cs k)⟩
 have a:JnA w' V D g jv T oj:=h.jn.stay hs (fun b e=>hc.same b (i b (h.own.jrn b e)) (h.own.rU b e)) (fun j a b e=>hc.same b (i b (h.own.bck j a b e)) (h.own.oJ j a b e))
 refine⟨h.blk.chg hc h.own.qF,l,a.mono (fun _ h=>h) (fun b _=>p b),r,h.len,.inl ⟨h.own.top,h.own.qF⟩,fun b=>.inr,fun b hb=>.inl ⟨h.own.var b hb,h.own.uH b hb⟩,fun b hb=>.inl ⟨h.own.jrn b hb,h.own.rU b hb⟩,fun j a b hb=>.inl ⟨h.own.bck j a b hb,h.own.oJ j a b hb⟩,fun b hb => ?_,no g h.own.top h.own.qF,fun b hb=>no b (h.own.var b hb) (h.own.uH b hb),fun b hb=>no b (h.own.jrn b hb) (h.own.rU b hb),fun j a b hb=>no b (h.own.bck j a b hb) (h.own.oJ j a b hb),fun b hv=>by
  obtain⟨cs,t,k,c⟩:=h.own.vk b hv
  exact⟨cs,t,k.same (hs.var b cs t hv k c),c⟩⟩
 have d:∀ b,F' b->∃ cs t,Blk w' b cs t/\t≠5:=fun b hf=>by
  obtain⟨L,_,A,_⟩:=l.ex;exact A.kind b hf
 rcases hb with⟨hb,hf⟩ | hb
 ·obtain⟨cs,t,k,c⟩:=h.own.kind b hb;exact⟨cs,t,k.chg hc hf,c⟩
 ·exact d b hb
theorem Fu(c:w.cell? ⟨g,o,none⟩=some v):(loadVar 37 ⟨g,o,none⟩).run Tryz.prog w=.ok v w:=by go_simp
theorem Bb(c:w.cell? ⟨g,o,none⟩=some v):(loadVar 77 ⟨g,o,none⟩).run Tryz.prog w=.ok v w:=by go_simp
theorem Fx(c:w.cell? ⟨g,o,none⟩=some v):(loadVar 87 ⟨g,o,none⟩).run Tryz.prog w=.ok v w:=by go_simp
theorem mo{a:Act}{o:Oper}(k q:Nat){c:Nat}(d:o.op=.store 87 (.tmp k) (.tmp q))(b:a.eval (.tmp k)=.pointer (some ⟨g,0,none⟩))(f:a.eval (.tmp q)=.slice ao n c)(hc:w.cell? ⟨g,0,none⟩=some u)(hf:w.frozen? ⟨g,0,none⟩=false) :
  (execOp a.eval o).run Tryz.prog w=.ok .skip (w.setCell ⟨g,0,none⟩ (.slice ao n c)):=by
 simp only[execOp,d,b,f];go_simp
def Rds(g m s1 s2:Nat)(jv:Value)(n:Int)(kv:Value)(w:World):Prop:=Blk w s1 [.pointer (some ⟨g,0,none⟩)] 37/\Blk w g [.pointer (some ⟨m,0,none⟩),jv,.int .i64 n] 85/\Blk w s2 [kv] 87
theorem Rds.keep{s1 s2:Nat}{n:Int}(h:Rds g m s1 s2 jv n kv w)(hb:Below w.heap.size w w'):Rds g m s1 s2 jv n kv w':=⟨h.1.keep hb,h.2.1.keep hb,h.2.2.keep hb⟩
end
end Kv
end
section
namespace Kv
open Go.RowKit Go.Lib Pg
attribute [local go_sem] Oper.semAt_some
section
variable {w:World}{D:Nat->Prop}{v:Value}{l:List Int}{cs:List Value}
theorem iI{w':World}{x:Nat}(hc:Chg (·=x) w w')(hx:Blk w x cs 87)(O:OB w D v l):OB w' D v l :=
 ⟨O.oct,O.ex.imp id (by
  rintro⟨b,c,e,hd,a⟩;refine⟨b,c,e,hd,a.chg hc (fun f=>?_)⟩
  have e2:b=x:=f;subst e2;obtain⟨d,k⟩:=a.kind
  exact absurd (hx.eq k).2 (by decide))⟩
def Rst(w:World)(g:Nat)(k L:List Int)(there:Bool)(e:Ending)(w':World):Prop:=∃ s1 s2 s3 v1 v3,e=.returned (.func (.func (if there then 195 else 194)) #[] (if there then #[.pointer (some ⟨s1,0,none⟩),.pointer (some ⟨s2,0,none⟩),.pointer (some ⟨s3,0,none⟩)] else #[.pointer (some ⟨s1,0,none⟩),.pointer (some ⟨s2,0,none⟩)])) ∧
      w.heap.size≤s1∧w.heap.size≤s2∧w.heap.size≤s3∧Blk w' s1 [.pointer (some ⟨g,0,none⟩)] 37∧Blk w' s2 [v1] 87∧Blk w' s3 [v3] 87∧OB w' (w.heap.size≤·) v1 k∧OB w' (w.heap.size≤·) v3 L∧Below w.heap.size w w'
theorem qa{g m:Nat}{jv kv:Value}{n:Int}{k L:List Int}{there:Bool}(Q:Blk w g [.pointer (some ⟨m,0,none⟩),jv,.int .i64 n] 85)(V:By w kv k)(P:k.length<=1000000000)(u:∀ w' kv',Below w.heap.size w w'->By w' kv' k->Calls Tryz.prog 165 #[.pointer (some ⟨m,0,none⟩),kv'] w' fun e w''=>∃ v,e=.returned (.tuple #[v,.bool there])/\OB w'' (w'.heap.size <= ·) v L/\Below w'.heap.size w' w'') :
  Calls Tryz.prog 146 #[.pointer (some ⟨g,0,none⟩),kv] w (Rst w g k L there):=by
 obtain⟨ao,c,rfl,-⟩:=id V.ex;have K:=aE w [.pointer (some ⟨g,0,none⟩)] 37;have al:=ae w (.cells #[.pointer (some ⟨g,0,none⟩)] 37)
 have W:(w.alloc (.cells #[.pointer (some ⟨g,0,none⟩)] 37)).heap.size=w.heap.size+1:=by simp
 have t1:=cZ (V.keep al) P;have J:=aD Q;have I:=aD u;have Y:=Q.lt;clear u Q;generalize hln:k.length=t at *
 cases there
 ·go_enter Tryz.func146,Tryz.ntmps146;go_wp2_with (go_at_call 69;refine t1.mono ?_;rintro e s ⟨v1,rfl,o,E⟩;obtain⟨a1,c1,rfl⟩:∃ a1 c1,v1=.slice a1 k.length c1:=(by obtain⟨a1,c1,e,_⟩:=o.by.ex;exact⟨a1,c1,e⟩));rw[hln] at o;have R:=E.size;have A:=ae s (.cells #[.slice a1 t c1] 87)
  have hS:Rds g m w.heap.size s.heap.size jv n (.slice a1 t c1) (s.alloc (.cells #[.slice a1 t c1] 87)).drew:=⟨((K.keep E).keep A).drew,(((J.out.keep al).keep E).keep A).drew,(aE s [.slice a1 t c1] 87).drew⟩
  have G:Below w.heap.size w (s.alloc (.cells #[.slice a1 t c1] 87)).drew:=aB (aB (aB al E) A) ⟨rfl,rfl,rfl,Nat.le_refl _,fun _ _=>rfl⟩
  have O:s.heap.size < (s.alloc (.cells #[.slice a1 t c1] 87)).drew.heap.size:=by show _ < (s.alloc _).heap.size;simp
  replace o:=((o.mono (D':=(w.heap.size <= ·)) (fun b _ h=>by omega)).keep A).keep (w':=(s.alloc (.cells #[.slice a1 t c1] 87)).drew) ⟨rfl,rfl,rfl,Nat.le_refl _,fun _ _=>rfl⟩;clear t1 A K al;clear E;refine bT (S:=Rds g m w.heap.size s.heap.size jv n (.slice a1 t c1)) (by kernel_rfl) hS ?_
  generalize (s.alloc (.cells #[.slice a1 t c1] 87)).drew=X at *;refine aU 0 (some 11) (.pointer (some ⟨g,0,none⟩)) 37 2 w.heap.size 0 (by kernel_rfl) (by kernel_rfl) (by kernel_rfl) (fun w' h=>Fu (h.1.cell (i:=0) rfl)) (fun _ _ _ h=>h) hS ?_
  refine ai 1 (some 12) (.pointer (some ⟨g,0,none⟩)) (by kernel_rfl) (fun _ _=>by kernel_rfl) (fun _ _ _ h=>h) hS ?_
  refine ai 2 (some 13) (.pointer (some ⟨g,0,none⟩)) (by kernel_rfl) (fun _ _=>by kernel_rfl) (fun _ _ _ h=>h) hS ?_
  refine aU 3 (some 14) (.pointer (some ⟨m,0,none⟩)) 77 13 g 0 (by kernel_rfl) (by kernel_rfl) (by kernel_rfl) (fun w' h=>Bb (h.2.1.cell (i:=0) rfl)) (fun _ _ _ h=>h) hS ?_
  refine aU 4 (some 15) (.slice a1 t c1) 87 5 s.heap.size 0 (by kernel_rfl) (by kernel_rfl) (by kernel_rfl) (fun w' h=>Fx (h.2.2.cell (i:=0) rfl)) (fun _ _ _ h=>h) hS ?_
  have D:=ae X (.cells #[.slice none 0 0] 87);refine aN [5,9] (by kernel_rfl) (by simp) (wG 5 (some 16) 165 #[.pointer (some ⟨m,0,none⟩),.slice a1 t c1] (by kernel_rfl) (by kernel_rfl) (I.out _ _ G o.by) ?_ (bH 9 (some 6) (.pointer (some ⟨X.heap.size,0,none⟩)) (X.alloc (.cells #[.slice none 0 0] 87)) (by kernel_rfl) (by kernel_rfl) (hS.keep D) ?_ bj))
  ·rintro T y ⟨v3,rfl,z,x⟩;obtain⟨a3,c3,rfl⟩:∃ a3 c3,v3=.slice a3 L.length c3:=(by obtain⟨a3,c3,e,_⟩:=z.by.ex;exact⟨a3,c3,e⟩)
   refine⟨_,rfl,hS.keep x,?_⟩;replace hS:=hS.keep x;replace o:=o.keep x;generalize L.length=p at *;refine ai 6 (some 10) (.tuple #[.slice a3 p c3,.bool false]) (by kernel_rfl) (fun _ _=>by kernel_rfl) (fun _ _ _ h=>h) hS ?_
   refine ai 7 (some 17) (.slice a3 p c3) (by kernel_rfl) (fun _ _=>by kernel_rfl) (fun _ _ _ h=>h) hS ?_
   refine ai 8 (some 18) (.bool false) (by kernel_rfl) (fun _ _=>by kernel_rfl) (fun _ _ _ h=>h) hS ?_
   have C:=aB G x;have U:=x.size;refine aN [9] (by kernel_rfl) (by simp) (bH 9 (some 6) (.pointer (some ⟨y.heap.size,0,none⟩)) (y.alloc (.cells #[.slice none 0 0] 87)) (by kernel_rfl) (by kernel_rfl) (hS.keep (ae y _)) ?_ bj);have H:=ae y (.cells #[.slice none 0 0] 87);replace hS:=hS.keep H;replace o:=o.keep H;replace z:=(z.mono (D':=(w.heap.size <= ·)) (fun b _ h=>by have N:X.heap.size<=b:=h;omega)).keep H;have q:=aE y [.slice none 0 0] 87;replace C:=aB C H;have j:=q.cell (i:=0) rfl;have f:=q.free 0
   have r:Chg (·=y.heap.size) (y.alloc (.cells #[.slice none 0 0] 87)) ((y.alloc (.cells #[.slice none 0 0] 87)).setCell ⟨y.heap.size,0,none⟩ (.slice a3 p c3)):=(Chg.refl (·=y.heap.size) (y.alloc (.cells #[.slice none 0 0] 87))).cell (.inl rfl) _
   have l:Rds g m w.heap.size s.heap.size jv n (.slice a1 t c1) ((y.alloc (.cells #[.slice none 0 0] 87)).setCell ⟨y.heap.size,0,none⟩ (.slice a3 p c3)):=⟨hS.1.chg r (by omega),hS.2.1.chg r (by omega),hS.2.2.chg r (by omega)⟩
   refine aN [10] (by kernel_rfl) (by simp) (dD 10 ((y.alloc (.cells #[.slice none 0 0] 87)).setCell ⟨y.heap.size,0,none⟩ (.slice a3 p c3)) (by kernel_rfl) (mo 6 17 (by kernel_rfl) (by kernel_rfl) (by kernel_rfl) j f) l ?_ bj);refine ai 11 (some 7) (.bool false) (by kernel_rfl) (fun _ _=>by kernel_rfl) (fun _ _ _ h=>h) l ?_
   refine bQ (by kernel_rfl) ?_
   simp only[Act.put,List.setIfInBounds_toArray,List.set_cons_zero,List.set_cons_succ];have d:=aD (And.intro (q.setCell (i:=0) (.slice a3 p c3)) (And.intro (iI r q z) (And.intro (iI r q o) (And.intro l (C.trans (r.below (B:=w.heap.size) (fun b e=>by omega) C.size))))));have g3:=aD (show w.heap.size<=y.heap.size by omega);clear j f r q z hS D o C l I G J;generalize (y.alloc (.cells #[.slice none 0 0] 87)).setCell ⟨y.heap.size,0,none⟩ (.slice a3 p c3)=Z at *;go_wp2;go_ret;exact⟨_,_,_,_,_,rfl,Nat.le_refl _,by omega,g3.out,d.out.2.2.2.1.1,d.out.2.2.2.1.2.2,d.out.1,d.out.2.2.1,d.out.2.1,d.out.2.2.2.2⟩
  ·replace hS:=hS.keep D;replace o:=o.keep D;have F:=aB G D;have q:=aE X [.slice none 0 0] 87
   have M:X.heap.size < (X.alloc (.cells #[.slice none 0 0] 87)).heap.size:=by simp
   refine bS 5 (some 16) 165 #[.pointer (some ⟨m,0,none⟩),.slice a1 t c1] (by kernel_rfl) (by kernel_rfl) (I.out _ _ F o.by) ?_
   rintro T y ⟨v3,rfl,z,x⟩;obtain⟨a3,c3,rfl⟩:∃ a3 c3,v3=.slice a3 L.length c3:=(by obtain⟨a3,c3,e,_⟩:=z.by.ex;exact⟨a3,c3,e⟩)
   refine⟨_,rfl,hS.keep x,?_⟩;replace hS:=hS.keep x;replace o:=o.keep x;generalize L.length=p at *;refine ai 6 (some 10) (.tuple #[.slice a3 p c3,.bool false]) (by kernel_rfl) (fun _ _=>by kernel_rfl) (fun _ _ _ h=>h) hS ?_
   refine ai 7 (some 17) (.slice a3 p c3) (by kernel_rfl) (fun _ _=>by kernel_rfl) (fun _ _ _ h=>h) hS ?_
   refine ai 8 (some 18) (.bool false) (by kernel_rfl) (fun _ _=>by kernel_rfl) (fun _ _ _ h=>h) hS ?_
   have C:=aB F x;replace q:=q.keep x;replace z:=z.mono (D':=(w.heap.size <= ·)) (fun b _ h=>by have N:(X.alloc (.cells #[.slice none 0 0] 87)).heap.size<=b:=h;omega);have j:=q.cell (i:=0) rfl;have f:=q.free 0
   have r:Chg (·=X.heap.size) (y) ((y).setCell ⟨X.heap.size,0,none⟩ (.slice a3 p c3)):=(Chg.refl (·=X.heap.size) (y)).cell (.inl rfl) _
   have l:Rds g m w.heap.size s.heap.size jv n (.slice a1 t c1) ((y).setCell ⟨X.heap.size,0,none⟩ (.slice a3 p c3)):=⟨hS.1.chg r (by omega),hS.2.1.chg r (by omega),hS.2.2.chg r (by omega)⟩
   refine aN [10] (by kernel_rfl) (by simp) (dD 10 ((y).setCell ⟨X.heap.size,0,none⟩ (.slice a3 p c3)) (by kernel_rfl) (mo 6 17 (by kernel_rfl) (by kernel_rfl) (by kernel_rfl) j f) l ?_ bj);refine ai 11 (some 7) (.bool false) (by kernel_rfl) (fun _ _=>by kernel_rfl) (fun _ _ _ h=>h) l ?_
   refine bQ (by kernel_rfl) ?_
   simp only[Act.put,List.setIfInBounds_toArray,List.set_cons_zero,List.set_cons_succ];have d:=aD (And.intro (q.setCell (i:=0) (.slice a3 p c3)) (And.intro (iI r q z) (And.intro (iI r q o) (And.intro l (C.trans (r.below (B:=w.heap.size) (fun b e=>by omega) C.size))))));have g3:=aD (show w.heap.size<=X.heap.size by omega);clear j f r q z hS D o C l I G J;generalize (y).setCell ⟨X.heap.size,0,none⟩ (.slice a3 p c3)=Z at *;go_wp2;go_ret;exact⟨_,_,_,_,_,rfl,Nat.le_refl _,by omega,g3.out,d.out.2.2.2.1.1,d.out.2.2.2.1.2.2,d.out.1,d.out.2.2.1,d.out.2.1,d.out.2.2.2.2⟩
 ·go_enter Tryz.func146,Tryz.ntmps146;go_wp2_with (go_at_call 69;refine t1.mono ?_;rintro e s ⟨v1,rfl,o,E⟩;obtain⟨a1,c1,rfl⟩:∃ a1 c1,v1=.slice a1 k.length c1:=(by obtain⟨a1,c1,e,_⟩:=o.by.ex;exact⟨a1,c1,e⟩));rw[hln] at o;have R:=E.size;have A:=ae s (.cells #[.slice a1 t c1] 87)
  have hS:Rds g m w.heap.size s.heap.size jv n (.slice a1 t c1) (s.alloc (.cells #[.slice a1 t c1] 87)).drew:=⟨((K.keep E).keep A).drew,(((J.out.keep al).keep E).keep A).drew,(aE s [.slice a1 t c1] 87).drew⟩
  have G:Below w.heap.size w (s.alloc (.cells #[.slice a1 t c1] 87)).drew:=aB (aB (aB al E) A) ⟨rfl,rfl,rfl,Nat.le_refl _,fun _ _=>rfl⟩
  have O:s.heap.size < (s.alloc (.cells #[.slice a1 t c1] 87)).drew.heap.size:=by show _ < (s.alloc _).heap.size;simp
  replace o:=((o.mono (D':=(w.heap.size <= ·)) (fun b _ h=>by omega)).keep A).keep (w':=(s.alloc (.cells #[.slice a1 t c1] 87)).drew) ⟨rfl,rfl,rfl,Nat.le_refl _,fun _ _=>rfl⟩;clear t1 A K al;clear E;refine bT (S:=Rds g m w.heap.size s.heap.size jv n (.slice a1 t c1)) (by kernel_rfl) hS ?_
  generalize (s.alloc (.cells #[.slice a1 t c1] 87)).drew=X at *;refine aU 0 (some 11) (.pointer (some ⟨g,0,none⟩)) 37 2 w.heap.size 0 (by kernel_rfl) (by kernel_rfl) (by kernel_rfl) (fun w' h=>Fu (h.1.cell (i:=0) rfl)) (fun _ _ _ h=>h) hS ?_
  refine ai 1 (some 12) (.pointer (some ⟨g,0,none⟩)) (by kernel_rfl) (fun _ _=>by kernel_rfl) (fun _ _ _ h=>h) hS ?_
  refine ai 2 (some 13) (.pointer (some ⟨g,0,none⟩)) (by kernel_rfl) (fun _ _=>by kernel_rfl) (fun _ _ _ h=>h) hS ?_
  refine aU 3 (some 14) (.pointer (some ⟨m,0,none⟩)) 77 13 g 0 (by kernel_rfl) (by kernel_rfl) (by kernel_rfl) (fun w' h=>Bb (h.2.1.cell (i:=0) rfl)) (fun _ _ _ h=>h) hS ?_
  refine aU 4 (some 15) (.slice a1 t c1) 87 5 s.heap.size 0 (by kernel_rfl) (by kernel_rfl) (by kernel_rfl) (fun w' h=>Fx (h.2.2.cell (i:=0) rfl)) (fun _ _ _ h=>h) hS ?_
  have D:=ae X (.cells #[.slice none 0 0] 87);refine aN [5,9] (by kernel_rfl) (by simp) (wG 5 (some 16) 165 #[.pointer (some ⟨m,0,none⟩),.slice a1 t c1] (by kernel_rfl) (by kernel_rfl) (I.out _ _ G o.by) ?_ (bH 9 (some 6) (.pointer (some ⟨X.heap.size,0,none⟩)) (X.alloc (.cells #[.slice none 0 0] 87)) (by kernel_rfl) (by kernel_rfl) (hS.keep D) ?_ bj))
  ·rintro T y ⟨v3,rfl,z,x⟩;obtain⟨a3,c3,rfl⟩:∃ a3 c3,v3=.slice a3 L.length c3:=(by obtain⟨a3,c3,e,_⟩:=z.by.ex;exact⟨a3,c3,e⟩)
   refine⟨_,rfl,hS.keep x,?_⟩;replace hS:=hS.keep x;replace o:=o.keep x;generalize L.length=p at *;refine ai 6 (some 10) (.tuple #[.slice a3 p c3,.bool true]) (by kernel_rfl) (fun _ _=>by kernel_rfl) (fun _ _ _ h=>h) hS ?_
   refine ai 7 (some 17) (.slice a3 p c3) (by kernel_rfl) (fun _ _=>by kernel_rfl) (fun _ _ _ h=>h) hS ?_
   refine ai 8 (some 18) (.bool true) (by kernel_rfl) (fun _ _=>by kernel_rfl) (fun _ _ _ h=>h) hS ?_
   have C:=aB G x;have U:=x.size;refine aN [9] (by kernel_rfl) (by simp) (bH 9 (some 6) (.pointer (some ⟨y.heap.size,0,none⟩)) (y.alloc (.cells #[.slice none 0 0] 87)) (by kernel_rfl) (by kernel_rfl) (hS.keep (ae y _)) ?_ bj);have H:=ae y (.cells #[.slice none 0 0] 87);replace hS:=hS.keep H;replace o:=o.keep H;replace z:=(z.mono (D':=(w.heap.size <= ·)) (fun b _ h=>by have N:X.heap.size<=b:=h;omega)).keep H;have q:=aE y [.slice none 0 0] 87;replace C:=aB C H;have j:=q.cell (i:=0) rfl;have f:=q.free 0
   have r:Chg (·=y.heap.size) (y.alloc (.cells #[.slice none 0 0] 87)) ((y.alloc (.cells #[.slice none 0 0] 87)).setCell ⟨y.heap.size,0,none⟩ (.slice a3 p c3)):=(Chg.refl (·=y.heap.size) (y.alloc (.cells #[.slice none 0 0] 87))).cell (.inl rfl) _
   have l:Rds g m w.heap.size s.heap.size jv n (.slice a1 t c1) ((y.alloc (.cells #[.slice none 0 0] 87)).setCell ⟨y.heap.size,0,none⟩ (.slice a3 p c3)):=⟨hS.1.chg r (by omega),hS.2.1.chg r (by omega),hS.2.2.chg r (by omega)⟩
   refine aN [10] (by kernel_rfl) (by simp) (dD 10 ((y.alloc (.cells #[.slice none 0 0] 87)).setCell ⟨y.heap.size,0,none⟩ (.slice a3 p c3)) (by kernel_rfl) (mo 6 17 (by kernel_rfl) (by kernel_rfl) (by kernel_rfl) j f) l ?_ bj);refine ai 11 (some 7) (.bool true) (by kernel_rfl) (fun _ _=>by kernel_rfl) (fun _ _ _ h=>h) l ?_
   refine bQ (by kernel_rfl) ?_
   simp only[Act.put,List.setIfInBounds_toArray,List.set_cons_zero,List.set_cons_succ];have d:=aD (And.intro (q.setCell (i:=0) (.slice a3 p c3)) (And.intro (iI r q z) (And.intro (iI r q o) (And.intro l (C.trans (r.below (B:=w.heap.size) (fun b e=>by omega) C.size))))));have g3:=aD (show w.heap.size<=y.heap.size by omega);clear j f r q z hS D o C l I G J;generalize (y.alloc (.cells #[.slice none 0 0] 87)).setCell ⟨y.heap.size,0,none⟩ (.slice a3 p c3)=Z at *;go_wp2;go_ret;exact⟨_,_,_,_,_,rfl,Nat.le_refl _,by omega,g3.out,d.out.2.2.2.1.1,d.out.2.2.2.1.2.2,d.out.1,d.out.2.2.1,d.out.2.1,d.out.2.2.2.2⟩
  ·replace hS:=hS.keep D;replace o:=o.keep D;have F:=aB G D;have q:=aE X [.slice none 0 0] 87
   have M:X.heap.size < (X.alloc (.cells #[.slice none 0 0] 87)).heap.size:=by simp
   refine bS 5 (some 16) 165 #[.pointer (some ⟨m,0,none⟩),.slice a1 t c1] (by kernel_rfl) (by kernel_rfl) (I.out _ _ F o.by) ?_
   rintro T y ⟨v3,rfl,z,x⟩;obtain⟨a3,c3,rfl⟩:∃ a3 c3,v3=.slice a3 L.length c3:=(by obtain⟨a3,c3,e,_⟩:=z.by.ex;exact⟨a3,c3,e⟩)
   refine⟨_,rfl,hS.keep x,?_⟩;replace hS:=hS.keep x;replace o:=o.keep x;generalize L.length=p at *;refine ai 6 (some 10) (.tuple #[.slice a3 p c3,.bool true]) (by kernel_rfl) (fun _ _=>by kernel_rfl) (fun _ _ _ h=>h) hS ?_
   refine ai 7 (some 17) (.slice a3 p c3) (by kernel_rfl) (fun _ _=>by kernel_rfl) (fun _ _ _ h=>h) hS ?_
   refine ai 8 (some 18) (.bool true) (by kernel_rfl) (fun _ _=>by kernel_rfl) (fun _ _ _ h=>h) hS ?_
   have C:=aB F x;replace q:=q.keep x;replace z:=z.mono (D':=(w.heap.size <= ·)) (fun b _ h=>by have N:(X.alloc (.cells #[.slice none 0 0] 87)).heap.size<=b:=h;omega);have j:=q.cell (i:=0) rfl;have f:=q.free 0
   have r:Chg (·=X.heap.size) (y) ((y).setCell ⟨X.heap.size,0,none⟩ (.slice a3 p c3)):=(Chg.refl (·=X.heap.size) (y)).cell (.inl rfl) _
   have l:Rds g m w.heap.size s.heap.size jv n (.slice a1 t c1) ((y).setCell ⟨X.heap.size,0,none⟩ (.slice a3 p c3)):=⟨hS.1.chg r (by omega),hS.2.1.chg r (by omega),hS.2.2.chg r (by omega)⟩
   refine aN [10] (by kernel_rfl) (by simp) (dD 10 ((y).setCell ⟨X.heap.size,0,none⟩ (.slice a3 p c3)) (by kernel_rfl) (mo 6 17 (by kernel_rfl) (by kernel_rfl) (by kernel_rfl) j f) l ?_ bj);refine ai 11 (some 7) (.bool true) (by kernel_rfl) (fun _ _=>by kernel_rfl) (fun _ _ _ h=>h) l ?_
   refine bQ (by kernel_rfl) ?_
   simp only[Act.put,List.setIfInBounds_toArray,List.set_cons_zero,List.set_cons_succ];have d:=aD (And.intro (q.setCell (i:=0) (.slice a3 p c3)) (And.intro (iI r q z) (And.intro (iI r q o) (And.intro l (C.trans (r.below (B:=w.heap.size) (fun b e=>by omega) C.size))))));have g3:=aD (show w.heap.size<=X.heap.size by omega);clear j f r q z hS D o C l I G J;generalize (y).setCell ⟨X.heap.size,0,none⟩ (.slice a3 p c3)=Z at *;go_wp2;go_ret;exact⟨_,_,_,_,_,rfl,Nat.le_refl _,by omega,g3.out,d.out.2.2.2.1.1,d.out.2.2.2.1.2.2,d.out.1,d.out.2.2.1,d.out.2.1,d.out.2.2.2.2⟩
end
end Kv
end
section
namespace Kv
open Go.RowKit Go.Lib Pg
section
variable {w:World} {b n c i:Nat} {xs:List Value}
end
end Kv
end
section
namespace Kv
open Go.RowKit Go.Lib Pg
attribute [local go_sem] Oper.semAt_some
section
variable {w:World}{V D:Nat->Prop}{g:Nat}{j:Jr}{cs':List Value}{bv jv:Value}{l:List Nat}{o:Option Nat}{Q:List (List KV)}{T0:List Jr}
theorem su(ao:Option Addr)(n c:Nat)(hn:n<=c)(bo:Option Addr)(c':Nat):(Builtin.append_ #[271,271] 271 #[.slice ao n c,.slice bo 0 c']).run Tryz.prog w=.ok (.slice ao n c) w:=by
 obtain⟨i,hi,d,hs,hb⟩:=info_parts KF.inf;have:(Builtin.firstCells i.size 0 (.slice bo 0 c')).run Tryz.prog w=.ok #[] w:=by
  cases bo with
  | none=>rfl
  | some a=>exact run_firstCells_some w i.size 0 a 0 c' [] (by simp) (fun j v b=>by simp at b)
 cases ao with
 | none=>simp[Builtin.append_,run_underlying KF.und,sizeOf,typeInfo,hi,Builtin.lenOf,this,hn]
 | some a=>simp[Builtin.append_,run_underlying KF.und,sizeOf,typeInfo,hi,Builtin.lenOf,this,hn,storeCells]
def Lies(w:World)(bv:Value)(cs:List Value):Prop:=(bv=.slice none 0 0/\cs=[])\/∃ a c,bv=.slice (some a) cs.length c/\∀ i x,cs[i]?=some x->w.cell? (a.add i)=some x
theorem Ag{t:List Und}(I:JrA w V D g j)(hC:jj w V D g t cs')(hb:Lies w bv cs')(hlen:j.U.length+t.length<=1000000000) :
  ∃ v' o' w',(Builtin.append_ #[271,271] 271 #[j.v,bv]).run Tryz.prog w=.ok v' w'/\(∃ ao n c,v'=.slice ao n c)/\JrA w' V D g ⟨j.U ++ t,v',o'⟩/\(∀ b,o'=some b->j.o=some b\/b=w.heap.size)/\Chg (fun b=>j.o=some b) w w':=by
 obtain⟨cs,hc,F⟩:=I;have d:=hC.1;by_cases y:t=[]
 ·subst y
  have p:cs'=[]:=List.eq_nil_of_length_eq_zero (by rw[d];rfl);subst p;obtain⟨u,l,rfl⟩:∃ u l,bv=.slice u 0 l:=by
   rcases hb with⟨e,_⟩ | ⟨a,c,e,_⟩
   ·exact⟨none,0,e⟩
   ·exact⟨some a,c,e⟩
  rcases F with⟨e1,e2,e3⟩ | ⟨b,c,e1,e2,hR⟩
  ·refine⟨_,j.o,w,by rw[e2];exact su none 0 0 (Nat.le_refl _) u l,⟨none,0,0,rfl⟩,⟨cs,by simpa using hc,.inl ⟨e1,rfl,by simpa using e3⟩⟩,fun b h=>.inl h,Chg.refl _ _⟩
  ·refine⟨_,j.o,w,by rw[e2];exact su _ _ _ hR.le.1 u l,⟨_,_,_,rfl⟩,⟨cs,by simpa using hc,.inr ⟨b,c,e1,by simp,by simpa using hR⟩⟩,fun b h=>.inl h,Chg.refl _ _⟩
 ·obtain⟨a,ca,rfl,f⟩:∃ a c,bv=.slice (some a) cs'.length c/\∀ i x,cs'[i]?=some x->w.cell? (a.add i)=some x:=by
   rcases hb with⟨_,e⟩ | h
   ·rw[e] at d;exact absurd (List.eq_nil_of_length_eq_zero d.symm) y
   ·exact h
  have r:0 < cs'.length:=by rw[d];exact List.length_pos_iff.2 y
  rcases F with⟨e1,e2,e3⟩ | ⟨b,c,e1,e2,hR⟩
  ·have p:cs=[]:=List.eq_nil_of_length_eq_zero (by rw[hc.1,e3];rfl);subst p;obtain⟨l,W,A,m,C⟩:=gW (w:=w) KF 271 a cs'.length ca cs' (by simp) f r (by omega) (by omega);refine⟨_,some w.heap.size,W,by rw[e2];exact A,⟨_,_,_,rfl⟩,⟨cs',?_,.inr ⟨_,l,rfl,by rw[e3,d];rfl,by rw[e3];simpa[d] using m⟩⟩,fun b h=>.inr (by cases h;rfl),Chg.of C⟩;rw[e3];exact hC.stay ⟨fun b _ _ _ k _=>C.block b k.lt,fun b H _ _=>C.block b H⟩
  ·obtain⟨E,l,W,A,B,m,s⟩:=eB KF 271 hR a cs'.length ca cs' (by simp) f hC.one (by omega) (by omega);obtain⟨G,z⟩:=hR.kind
   have q:l4 V D w W:=l9 z (by decide) (by decide) (by decide) s;refine⟨_,some E,W,by rw[e2];exact A,⟨_,_,_,rfl⟩,⟨cs ++ cs',(hc.stay q).app (hC.stay q),.inr ⟨E,l,rfl,by simp[d],by simpa[d] using m⟩⟩,fun x h=>?_,s.mono (fun x _ e=>by have J:x=b:=e;rw[J,e1])⟩
   cases h;rcases B with e | e
   ·exact .inl (by rw[e1,e])
   ·exact .inr e
theorem sB(T0:List Jr)(j:Jr):tot (T0 ++ [j])=tot T0+j.U.length:=by simp[tot]
theorem mI:(l ++ o.toList).Nodup ↔ l.Nodup∧∀ b,o=some b→b ∉ l:=by
  cases o with
  | none=>simp
  | some x => simp[List.nodup_append]; intro _; constructor
              · intro h hx;exact h x hx rfl
              · intro h a c e;subst e;exact h c
theorem wX(T0:List Jr)(j:Jr):(T0 ++ [j]).filterMap Jr.o=T0.filterMap Jr.o ++ j.o.toList:=by
 rw[List.filterMap_append];congr 1
theorem SX.inner{s:World}{K F:Nat->Prop}{m r:Nat}{j':Jr}{n N N':Nat}(h:SX w K D F V g m Q jv (T0 ++ [j]) (some r) n N)(E:JrA s V D g j')(C:∀ b,j'.o=some b->j.o=some b\/w.heap.size<=b)(H:N<=N')(a:Kv.tot (T0 ++ [j'])+Q.flatten.length<=N')(q:∃ c,jv=.slice (some ⟨r,0,none⟩) (T0 ++ [j]).length c/\Rw s 274 1 r (T0 ++ [j]).length c ((T0 ++ [j']).map Jr.v))(hc:Chg (fun b=>j.o=some b\/b=r) w s) :
  SX s (fun b=>(K b/\¬ j.o=some b)\/j'.o=some b) D F V g m Q jv (T0 ++ [j']) (some r) n N':=by
 have f:j∈T0 ++ [j]:=by simp
 have hx:∀ b cs t,Blk w b cs t->t≠1->t≠274->s.heap[b]? = w.heap[b]? := fun b cs t k p y=>hc.same b k.lt (fun e=>by
  rcases e with e | e
  ·obtain⟨l,i⟩:=(h.jn.each j f).kind e;exact p (k.eq i).2
  ·subst e;obtain⟨l,i⟩:=h.jn.kind rfl
   exact y (k.eq i).2)
 have z:∀ b,(j.o=some b\/b=r)->¬ F b:=fun b e=>e.elim (h.own.oJ j f b) (fun e=>by subst e;exact h.own.rU _ rfl)
 have x:l4 V D w s:=⟨fun b cs t _ k a=>hx b cs t k (by rcases a with e | e<;>subst e<;>decide) (by rcases a with e | e<;>subst e<;>decide),fun b _ _ k=>by obtain⟨cs,k⟩:=k;exact hx b cs _ k (by decide) (by decide)⟩
 have u:∀ t∈T0 ++ [j],∀ b,t.o=some b->b < w.heap.size:=fun t a b e=>by obtain⟨cs,k⟩:=(h.jn.each t a).kind e;exact k.lt
 have d:=h.jn.apart;rw[wX,mI] at d;refine⟨⟨by rw[hx g _ _ h.blk (by decide) (by decide)];exact h.blk.blk⟩,h.map.same (fun b hF=>hc.same b (h.map.lt hF) (fun e=>z b e hF)) (fun b _ _ k=>by obtain⟨cs,k⟩:=k;exact hx b cs _ k (by decide) (by decide)) |>.more H,⟨?_,?_,?_⟩,a,by have:=h.len;simp at this ⊢;omega,?_⟩
 ·obtain⟨c,e,A⟩:=q;exact .inr ⟨r,c,rfl,by rw[e];simp,by simpa using A⟩
 ·intro t a;rcases List.mem_append.1 a with h0 | h0
  ·refine(h.jn.each t (List.mem_append_left _ h0)).stay x (fun b e => ?_);refine hc.same b (u t (List.mem_append_left _ h0) b e) (fun e2 => ?_);rcases e2 with e2 | e2
   ·exact d.2 b e2 (List.mem_filterMap.2 ⟨t,h0,e⟩)
   ·subst e2;obtain⟨cs,k⟩:=(h.jn.each t (List.mem_append_left _ h0)).kind e;obtain⟨l,i⟩:=h.jn.kind rfl;exact absurd (k.eq i).2 (by decide)
  ·simp at h0;subst h0;exact E
 ·rw[wX,mI];refine⟨d.1,fun b e hm => ?_⟩;rcases C b e with p | p
  ·exact d.2 b p hm
  ·obtain⟨t,y,G⟩:=List.mem_filterMap.1 hm;have:=u t (List.mem_append_left _ y) b G;omega
 ·have B:∀ b cs t,Blk w b cs t->t≠1->¬ j.o=some b:=fun b cs t k p e=>by
   obtain⟨l,i⟩:=(h.jn.each j f).kind e;exact p (k.eq i).2
  refine⟨.inl ⟨h.own.top,B g _ _ h.blk (by decide)⟩,fun b hb=>.inl ⟨h.own.map b hb,fun e=>h.own.oJ j f b e hb⟩,fun b hb => ?_,fun b hb => ?_,fun t a b e => ?_,fun b hb => ?_,h.own.qF,h.own.uH,h.own.rU,fun t a b e => ?_,fun b hv=>by
   obtain⟨cs,t,k,a⟩:=h.own.vk b hv
   exact⟨cs,t,k.same (x.var b cs t hv k a),a⟩⟩
  ·obtain⟨cs,t,k,a⟩:=h.own.vk b hb;exact .inl ⟨h.own.var b hb,B b cs t k (by rcases a with e | e<;>subst e<;>decide)⟩
  ·cases hb;obtain⟨l,i⟩:=h.jn.kind rfl;exact .inl ⟨h.own.jrn _ rfl,B _ _ _ i (by decide)⟩
  ·rcases List.mem_append.1 a with h0 | h0
   ·exact .inl ⟨h.own.bck t (List.mem_append_left _ h0) b e,fun e2=>d.2 b e2 (List.mem_filterMap.2 ⟨t,h0,e⟩)⟩
   ·simp at h0;subst h0;exact .inr e
  ·rcases hb with⟨hb,hn⟩ | hb
   ·by_cases e:b=r
    ·subst e;obtain⟨c,_,A⟩:=q;obtain⟨cs,k⟩:=A.kind;exact⟨cs,_,k,by decide⟩
    ·obtain⟨cs,t,k,a⟩:=h.own.kind b hb;exact⟨cs,t,k.chg hc (fun e2=>e2.elim hn e),a⟩
   ·obtain⟨cs,k⟩:=E.kind hb;exact⟨cs,_,k,by decide⟩
  ·rcases List.mem_append.1 a with h0 | h0
   ·exact h.own.oJ t (List.mem_append_left _ h0) b e
   ·simp at h0; subst h0;rcases C b e with p | p
    ·exact h.own.oJ j f b p
    ·intro hF;have:=h.map.lt hF;omega
end
end Kv
end
section
namespace Kv
open Go.RowKit Go.Lib Pg
attribute [local go_sem] Oper.semAt_some
section
variable {w:World}{V D:Nat->Prop}{g:Nat}{jv bv:Value}{T0:List Jr}{j:Jr}{oj:Option Nat}{Q:List (List KV)}{cs':List Value}
theorem xM(T0:List Jr)(j j':Jr):((T0 ++ [j]).map Jr.v).set T0.length j'.v=(T0 ++ [j']).map Jr.v:=by
 rw[List.map_append,List.map_append,List.set_append_right _ _ (by simp)];simp
theorem JnA.last(h:JnA w V D g jv (T0 ++ [j]) oj):∃ jb c,oj=some jb/\jv=.slice (some ⟨jb,0,none⟩) (T0.length+1) c/\Rw w 274 1 jb (T0.length+1) c ((T0 ++ [j]).map Jr.v):=by
 rcases h.row with⟨_,_,e⟩ | ⟨b,c,e1,e2,hR⟩
 ·exact absurd e (by simp)
 ·exact⟨b,c,e1,by rw[e2];simp,by simpa using hR⟩
theorem xnote{K F:Nat->Prop}{m:Nat}{n N:Nat}{r:List Und}(h:SX w K D F V g m Q jv (T0 ++ [j]) oj n N)(hC:jj w V D g r cs')(hb:Lies w bv cs'){N':Nat}(X:N<=N')(B:Kv.tot (T0 ++ [j])+r.length+Q.flatten.length<=N')(hN3:N'<=1000000000) :
  Calls Tryz.prog 145 #[.pointer (some ⟨g,0,none⟩),bv] w fun e w'=>e=.returned (.tuple #[])/\∃ K' j',j'.U=j.U ++ r/\SX w' K' D F V g m Q jv (T0 ++ [j']) oj n N'/\(∀ b,K' b->K b\/w.heap.size<=b)/\Chg K w w':=by
 have hlen:j.U.length+r.length<=1000000000:=by rw[sB] at B;omega
 obtain⟨f,c,rfl,rfl,G⟩:=h.jn.last;obtain⟨v',Y,C,hr,⟨s,t,u,rfl⟩,R,P,z⟩:=Ag (h.jn.each j (by simp)) hC hb hlen
 have l:j∈T0 ++ [j]:=by simp
 have ud:=oY h.blk;have c1:=h.blk.cell (i:=1) rfl;have x:=G.cell (i:=T0.length) (v:=j.v) (by simp)
 have A:¬ j.o=some f:=fun e=>by
  obtain⟨cs,k⟩:=(h.jn.each j l).kind e;obtain⟨cs',O⟩:=G.kind;exact absurd (k.eq O).2 (by decide)
 have d:=G.chg z A;have p:=d.cell (i:=T0.length) (v:=j.v) (by simp);have H:=d.free T0.length;have hle:=G.le
 have S:∃ a1 n1 c1,j.v=.slice a1 n1 c1:=by
  obtain⟨cs,_,⟨_,e,_⟩ | ⟨b,c,_,e,_⟩⟩:=h.jn.each j l
  ·exact⟨_,_,_,e⟩
  ·exact⟨_,_,_,e⟩
 obtain⟨a1,n1,c2,W⟩:=S;rw[W] at x p hr
 have I:∃ a2 n2 c3,bv=.slice a2 n2 c3:=by
  rcases hb with⟨e,_⟩ | ⟨a,c,e,_⟩
  ·exact⟨_,_,_,e⟩
  ·exact⟨_,_,_,e⟩
 obtain⟨a2,n2,c3,L⟩:=I;subst L
 have hg0:(0:Int) < (T0.length:Int)+1:=by omega
 have hg1:(T0.length:Int)<=16:=by have:=h.len;simp at this;omega
 have M:Hid (∃ K' j',j'.U=j.U ++ r/\SX (C.setCell ⟨f,T0.length,none⟩ (.slice s t u)) K' D F V g m Q (.slice (some ⟨f,0,none⟩) (T0.length+1) c) (T0 ++ [j']) (some f) n N'/\(∀ b,K' b->K b\/w.heap.size<=b)/\Chg K w (C.setCell ⟨f,T0.length,none⟩ (.slice s t u))):=by
  have E:Chg (fun b=>j.o=some b\/b=f) w (C.setCell ⟨f,T0.length,none⟩ (.slice s t u)):=(z.mono (fun b _ e=>.inl e)).cell (.inl (.inr rfl)) _;obtain⟨cs,Z⟩:=d.kind
  have T:JrA (C.setCell ⟨f,T0.length,none⟩ (.slice s t u)) V D g ⟨j.U ++ r,.slice s t u,Y⟩:=R.stay (l9 Z (by decide) (by decide) (by decide) ((Chg.refl (· = f) C).cell (.inl rfl) _)) (fun b e=>by
   have J:b≠f:=fun e2=>by
    subst e2;obtain⟨cs',O⟩:=R.kind e;exact absurd (O.eq Z).2 (by decide)
   exact Below.heap_setCell _ _ _ _ J)
  have hS:=h.inner (j':=⟨j.U ++ r,.slice s t u,Y⟩) T (fun b e=>(P b e).imp id (fun e=>by omega)) (N':=N') X (by rw[sB] at B ⊢; simp only[List.length_append]; omega) ⟨c,by simp,by
   have:=d.set T0.length (by simp) (.slice s t u);rw[xM T0 j ⟨j.U ++ r,.slice s t u,Y⟩] at this
   simpa using this⟩ E
  refine⟨_,_,rfl,hS,fun b hb=>?_,E.mono (fun b _ e=>?_)⟩
  ·rcases hb with hb | hb
   ·exact .inl hb.1
   ·rcases P b hb with e | e
    ·exact .inl (h.own.bck j l b e)
    ·exact .inr (by omega)
  ·rcases e with e | e
   ·exact h.own.bck j l b e
   ·subst e;exact h.own.jrn _ rfl
 clear h hC hb G d R P z A hlen;generalize T0.length=q at *;go_enter Tryz.func145,Tryz.ntmps145;go_wp2_with first
  | (go_at_call 144;go_must (refine ud.mono ?_);rintro e y ⟨rfl,hy⟩;replace hy:=hy.symm;subst hy)
  | (at_builtin;refine Lib.wpList_append_run _ rfl _ _ _ _ rfl _ _ rfl rfl _ _ hr ?_)
 go_end0;exact⟨rfl,M.out⟩
end
end Kv
end
section
namespace Kv
open Go.RowKit Go.Lib Pg
attribute [local go_sem] Oper.semAt_some
section
variable {w:World}{K D F V:Nat->Prop}{g m n N:Nat}{Q:List (List KV)}{jv kv:Value}{T T0:List Jr}{oj:Option Nat}{k:List Int}
theorem yu(h:SX w K D F V g m Q jv T oj n N)(o:By w kv k)(a:k.length<=1000000000)(t:N<=100000000) :
  Calls Tryz.prog 146 #[.pointer (some ⟨g,0,none⟩),kv] w fun e w'=>∃ (c:Value) (S:Nat->Prop),e=.returned c/\(∃ f cap,c=.func (.func f) #[] cap)/\SX w' (fun b=>K b\/S b) (fun b=>D b\/w.heap.size<=b) F (fun b=>V b\/S b) g m Q jv T oj n N/\oF w' (fun b=>V b\/S b) (fun b=>D b\/w.heap.size<=b) g (k,look Q.flatten k) c/\(∀ b,S b->w.heap.size<=b)/\Below w.heap.size w w':=by
 refine(qa (there:=(look Q.flatten k).isSome) (L:=(look Q.flatten k).getD []) h.blk o a (fun w' r u p=>(jU (h.keep u) p t).mono fun e s h=>h)).mono ?_
 rintro e w' ⟨s1,s2,s3,v1,v3,rfl,g1,g2,g3,d,l,i,q,j,B⟩
 have hX:=(h.keep B).vars (S:=fun b=>b=s1\/b=s2\/b=s3) (fun b hb hF=>by have:=h.map.lt hF; rcases hb with rfl | rfl | rfl<;>omega) (fun b hb=>by
  rcases hb with rfl | rfl | rfl
  ·exact⟨_,_,d,.inl rfl⟩
  ·exact⟨_,_,l,.inr rfl⟩
  ·exact⟨_,_,i,.inr rfl⟩) (D':=fun b=>D b\/w.heap.size<=b) (fun _ _ h=>.inl h)
 refine⟨_,fun b=>b=s1\/b=s2\/b=s3,rfl,⟨_,_,rfl⟩,hX,⟨⟨a,fun x hx=>?_⟩,s1,s2,v1,.inr (.inl rfl),.inr (.inr (.inl rfl)),d,l,q.mono (fun _ _ h=>.inr h),?_⟩,(fun b hb=>by rcases hb with rfl | rfl | rfl<;>assumption),B⟩
 ·exact(h.map.small _ (jQ hx)).2
 ·cases hl:look Q.flatten k with
  | none=>exact .inl ⟨rfl,by simp⟩
  | some x=>exact .inr ⟨s3,v3,x,.inr (.inr (.inr rfl)),i,by rw[hl] at j;exact j.mono (fun _ _ h=>.inr h),rfl,by simp⟩
theorem mD(h:SX w K D F V g m Q jv [] oj n N) :
  Calls Tryz.prog 96 #[.pointer (some ⟨g,0,none⟩),kv] w fun e w'=>e=.returned (.tuple #[])/\w'=w:=by
 have b:=zE h;clear h;go_enter Tryz.func96,Tryz.ntmps96;go_wp2_with (go_at_call 144;go_must (refine b.mono ?_);rintro e y ⟨rfl,hy⟩;replace hy:=hy.symm;subst hy);go_end0;exact⟨rfl,rfl⟩
theorem pI{j:Jr}(h:SX w K D F V g m Q jv (T0 ++ [j]) oj n N)(q:By w kv k)(p:k.length<=1000000000)(I:N<=100000000) :
  Calls Tryz.prog 96 #[.pointer (some ⟨g,0,none⟩),kv] w fun e w'=>e=.returned (.tuple #[])/\∃ K' V' j',j'.U=j.U ++ [(k,look Q.flatten k)]/\SX w' K' (fun b=>D b\/w.heap.size<=b) F V' g m Q jv (T0 ++ [j']) oj n (N+1)/\(∀ b,K' b->K b\/w.heap.size<=b)/\Chg K w w':=by
 have s:=zE h;have E:=yu h q p I;obtain⟨J,c,rfl,-⟩:=id q.ex;generalize k.length=kn at *
 have z:(0:Int) < ((T0 ++ [j]).length:Int):=by simp
 have L:Hid (∀ b,K b->b < w.heap.size):=fun b hb=>by obtain⟨cs,t,k,_⟩:=h.own.kind b hb;exact k.lt
 clear h q;generalize (T0 ++ [j]).length=tl at *;go_enter Tryz.func96,Tryz.ntmps96;go_wp2_with first
  | (go_at_call 144;go_must (refine s.mono ?_);rintro e y ⟨rfl,hy⟩;replace hy:=hy.symm;subst hy)
  | (go_at_call 146;go_must (refine E.mono ?_);rintro e d ⟨cl,S,rfl,⟨f,cap,rfl⟩,l,v,hS,A⟩;have al:=ae d (.cells #[.func (.func f) #[] cap] 1);have bl:=aE d [.func (.func f) #[] cap] 1;have C:jj (d.alloc (.cells #[.func (.func f) #[] cap] 1)) (fun b=>V b\/S b) (fun b=>D b\/w.heap.size<=b) g [(k,look Q.flatten k)] [.func (.func f) #[] cap]:=⟨rfl,(fun i u c hu hc=>by (have hi:i=0:=(by have:=(List.getElem?_eq_some_iff.1 hu).1;simp at this;omega));subst hi;simp at hu hc;subst hu;subst hc;exact v.stay ⟨fun b _ _ _ k _=>al.block b k.lt,fun b z _ _=>al.block b z⟩)⟩;have B:Lies (d.alloc (.cells #[.func (.func f) #[] cap] 1)) (.slice (some ⟨d.heap.size,0,none⟩) 1 1) [.func (.func f) #[] cap]:=.inr ⟨_,1,rfl,(fun i x hx=>by (have hi:i=0:=(by have:=(List.getElem?_eq_some_iff.1 hx).1;simp at this;omega));subst hi;simp at hx;subst hx;exact bl.cell (i:=0) rfl)⟩;have un:=xnote (N':=N+1) (l.keep al) C B (by omega) (by have:=l.tot;simp only[List.length_cons,List.length_nil];omega) (by omega);clear l v C B bl s E)
  | (go_at_call 145;go_must (refine un.mono ?_);rintro e M ⟨rfl,K',j',r,H,o,hC⟩;clear un)
 go_end0;refine⟨rfl,K',_,j',r,H,fun b hb=>?_,?_⟩
 ·rcases o b hb with(h1 | h1) | h1
  ·exact .inl h1
  ·exact .inr (hS b h1)
  ·exact .inr (by have:=A.size;have:=al.size;omega)
 ·have G:=aB A al;exact(Chg.of (F:=K) G).trans hC (fun b hb e=>e.elim id (fun e=>by have:=hS b e;omega))
def BK(w:World)(K:Nat->Prop)(kv:Value)(k:List Int):Prop:=∀ w',Chg K w w'->By w' kv k
theorem BK.by(h:BK w K kv k):By w kv k:=h w (Chg.refl _ _)
theorem BK.shape(h:BK w K kv k):∃ ao c,kv=.slice ao k.length c:=by
 obtain⟨ao,c,e,_⟩:=h.by.ex
 exact⟨ao,c,e⟩
theorem fA{w1 w2:World}(h:Chg K w w1)(h':Chg K w1 w2):Chg K w w2:=h.trans h' (fun _ _ h=>h)
end
end Kv
end
section
namespace Kv
open Go.RowKit Go.Lib Pg
attribute [local go_sem] Oper.semAt_some
section
variable {T0 T:List Jr}{j:Jr}{W:List aI}{E E':aI}{w w':World}{K D F V:Nat->Prop}{g m n N:Nat}{Q:List (List KV)}{jv kv vv:Value}{oj:Option Nat}{k v:List Int}
theorem oX{j':Jr}{u:Und}(h:ly ((T0 ++ [j]).reverse.map Jr.U) W E)(a:j'.U=j.U ++ [u])(hu:Cn E' u=E):ly ((T0 ++ [j']).reverse.map Jr.U) W E':=by
 rw[List.reverse_append] at h ⊢;simp only[List.reverse_cons,List.reverse_nil,List.nil_append,List.cons_append,List.map_cons] at h ⊢
 cases W with
 | nil=>exact h.elim
 | cons e W=>exact⟨by rw[a,vw,hu];exact h.1,h.2⟩
theorem sd(h:ly [] W E):ly [] W E':=by
 cases W with
 | nil=>trivial
 | cons e W=>exact h.elim
def jF(k v:List Int):Int:=if k.length=0\/64 < k.length then 60 else if 4096 < v.length then 61 else 0
def Ends(w:World)(K D:Nat->Prop)(g:Nat)(E:aI)(W:List aI)(n N:Nat)(r:Value)(e:Ending)(w':World):Prop:=e=.returned r/\∃ K',SA w' K' (fun b=>D b\/w.heap.size<=b) g E W n N/\(∀ b,K' b->K b\/w.heap.size<=b)/\Chg K w w'
theorem SX.kg(h:SX w K D F V g m Q jv T oj n N)(hc:Chg (·=g) w w'):Chg K w w':=hc.mono (fun b _ e=>by have e':b=g:=e;subst e';exact h.own.top)
theorem yh(h:SA w K D g E W n N)(f:BK w K kv k)(hv:BK w K vv v)(hn:n<=4000000000000000000)(h0:k.length=0) :
  Calls Tryz.prog 55 #[.pointer (some ⟨g,0,none⟩),kv,vv] w (Ends w K D g E W (n+1) (N+2) (.int .i64 60)):=by
 obtain⟨F,V,m,Q,x,T,A,hX,i,j⟩:=h.open;obtain⟨t,c,rfl⟩:=f.shape;obtain⟨y,d,rfl⟩:=hv.shape;have u:=gw hX hn;have r:=aD hX;have p:=aD i;have l:=aD j;generalize k.length=kn at *;generalize v.length=z at *
 have g0:(kn:Int)=0:=by omega
 clear hX i j h f hv;go_enter Tryz.func55,Tryz.ntmps55;go_wp2_with (go_at_call 95;go_must (refine u.mono ?_);rintro e s ⟨rfl,q,o⟩);go_ret;exact⟨rfl,K,(q.shut p.out l.out).more (by omega) |>.mono (fun _ _ h=>.inl h),fun b h=>.inl h,r.out.kg o⟩
theorem xK(h:SA w K D g E W n N)(f:BK w K kv k)(hv:BK w K vv v)(hn:n<=4000000000000000000)(h0:¬ k.length=0)(x:64 < k.length) :
  Calls Tryz.prog 55 #[.pointer (some ⟨g,0,none⟩),kv,vv] w (Ends w K D g E W (n+1) (N+2) (.int .i64 60)):=by
 obtain⟨F,V,m,Q,y,T,B,hX,i,j⟩:=h.open;obtain⟨t,c,rfl⟩:=f.shape;obtain⟨z,d,rfl⟩:=hv.shape;have u:=gw hX hn;have r:=aD hX;have p:=aD i;have l:=aD j;generalize k.length=kn at *;generalize v.length=A at *
 have g0:((kn:Int)=0)=False:=eq_false (by omega)
 have g1:(64:Int) < kn:=by omega
 clear hX i j h f hv;go_enter Tryz.func55,Tryz.ntmps55;go_wp2_with (go_at_call 95;go_must (refine u.mono ?_);rintro e s ⟨rfl,q,o⟩);go_ret;exact⟨rfl,K,(q.shut p.out l.out).more (by omega) |>.mono (fun _ _ h=>.inl h),fun b h=>.inl h,r.out.kg o⟩
theorem Bn(h:SA w K D g E W n N)(f:BK w K kv k)(hv:BK w K vv v)(hn:n<=4000000000000000000)(h0:¬ k.length=0)(z:¬ 64 < k.length)(x:4096 < v.length) :
  Calls Tryz.prog 55 #[.pointer (some ⟨g,0,none⟩),kv,vv] w (Ends w K D g E W (n+1) (N+2) (.int .i64 61)):=by
 obtain⟨F,V,m,Q,A,T,C,hX,i,j⟩:=h.open;obtain⟨y,c,rfl⟩:=f.shape;obtain⟨B,d,rfl⟩:=hv.shape;have u:=gw hX hn;have s:=aD hX;have q:=aD i;have l:=aD j;generalize k.length=kn at *;generalize v.length=p at *
 have g0:((kn:Int)=0)=False:=eq_false (by omega)
 have g1:((64:Int) < kn)=False:=eq_false (by omega)
 have g2:(4096:Int) < p:=by omega
 clear hX i j h f hv;go_enter Tryz.func55,Tryz.ntmps55;go_wp2_with (go_at_call 95;go_must (refine u.mono ?_);rintro e t ⟨rfl,r,o⟩);go_ret;exact⟨rfl,K,(r.shut q.out l.out).more (by omega) |>.mono (fun _ _ h=>.inl h),fun b h=>.inl h,s.out.kg o⟩
theorem yY(hX:SX w K D F V g m Q jv [] oj n N)(C:ly ([].reverse.map Jr.U) W Q.flatten)(r:BK w K kv k)(hv:BK w K vv v)(hn:n<=4000000000000000000)(t:N+2<=100000000)(h0:¬ k.length=0)(l:¬ 64 < k.length)(G:¬ 4096 < v.length) :
  Calls Tryz.prog 55 #[.pointer (some ⟨g,0,none⟩),kv,vv] w (Ends w K D g (put Q.flatten k v) W (n+1) (N+2) (.int .i64 0)):=by
 obtain⟨M,c,rfl⟩:=r.shape;obtain⟨O,d,rfl⟩:=hv.shape;have u:=gw hX hn;have x:=aD hX;have J:=aD C;have A:=aD r;have B:=aD hv;have p:=aD (show k.length<=64 by omega);have q:=aD (show v.length<=4096 by omega);replace t:N<=99999998:=by omega
 have I:=t;replace t:N<=100000000:=by omega
 have g0:((k.length:Int)=0)=False:=eq_false (by omega)
 have g1:((64:Int) < k.length)=False:=eq_false (by omega)
 have g2:¬ ((4096:Int) < v.length):=by omega
 clear hX C r hv;obtain⟨kn,o⟩:∃ kn,Hid (k.length=kn):=⟨_,rfl⟩
 obtain⟨z,s⟩:∃ z,Hid (v.length=z):=⟨_,rfl⟩
 rw[o.out] at g0 g1 A h0 l ⊢;rw[s.out] at g2 B G ⊢;go_enter Tryz.func55,Tryz.ntmps55;go_wp2_with first
  | (go_at_call 95;go_must (refine u.mono ?_);rintro e P ⟨rfl,f,j⟩)
  | (go_at_call 96;go_must (refine(mD f).mono ?_);rintro e y ⟨rfl,hy⟩;replace hy:=hy.symm;subst hy;have c0:=f.blk.cell (i:=0) rfl;have us:=mset f.map (A.out _ (x.out.kg j)) (B.out _ (x.out.kg j)) (by have:=p.out;omega) (by have:=q.out;omega) (by omega))
  | (go_at_call 97;go_must (refine us.mono ?_);rintro e R ⟨rfl,S,H,hF,hC⟩)
 go_ret;have L:=f.mapped (N':=N+1) (by have:=f.tot;have:=wo f.map.ord.flat k v;rw[iS f.map.ord];omega) H hF (fun _ h=>.inl h) hC;refine⟨rfl,_,((L.shut (E:=put Q.flatten k v) (W:=W) (iS f.map.ord k v) (sd J.out)).more (by omega)).mono (fun b _ hb=>?_),fun b hb=>?_,?_⟩
 ·rcases hb with hb | hb
  ·exact .inl hb
  ·exact .inr (by have:=j.size;omega)
 ·rcases hb with⟨hb,_⟩ | hb
  ·exact .inl hb
  ·rcases hF b hb with l | l
   ·exact .inl (f.own.map b l)
   ·exact .inr (by have:=j.size;omega)
 ·exact fA (x.out.kg j) (hC.mono (fun b _ h=>f.own.map b h))
theorem AN(hX:SX w K D F V g m Q jv (T0 ++ [j]) oj n N)(I:ly ((T0 ++ [j]).reverse.map Jr.U) W Q.flatten)(y:BK w K kv k)(hv:BK w K vv v)(hn:n<=4000000000000000000)(s:N+2<=100000000)(h0:¬ k.length=0)(r:¬ 64 < k.length)(J:¬ 4096 < v.length) :
  Calls Tryz.prog 55 #[.pointer (some ⟨g,0,none⟩),kv,vv] w (Ends w K D g (put Q.flatten k v) W (n+1) (N+2) (.int .i64 0)):=by
 obtain⟨Y,c,rfl⟩:=y.shape;obtain⟨bo,d,rfl⟩:=hv.shape;have u:=gw hX hn;have C:=aD hX;have R:=aD I;have B:=aD y;have H:=aD hv;have p:=aD (show k.length<=64 by omega);have x:=aD (show v.length<=4096 by omega);replace s:N<=99999998:=by omega
 have P:=s;replace s:N<=100000000:=by omega
 have g0:((k.length:Int)=0)=False:=eq_false (by omega)
 have g1:((64:Int) < k.length)=False:=eq_false (by omega)
 have g2:¬ ((4096:Int) < v.length):=by omega
 clear hX I y hv;obtain⟨kn,t⟩:∃ kn,Hid (k.length=kn):=⟨_,rfl⟩
 obtain⟨G,z⟩:∃ G,Hid (v.length=G):=⟨_,rfl⟩
 rw[t.out] at g0 g1 B h0 r ⊢;rw[z.out] at g2 H J ⊢;go_enter Tryz.func55,Tryz.ntmps55;go_wp2_with first
  | (go_at_call 95;go_must (refine u.mono ?_);rintro e w1 ⟨rfl,M,o⟩)
  | (go_at_call 96;go_must (refine(pI M (B.out _ (C.out.kg o)) (by have:=p.out;omega) s).mono ?_);rintro e w2 ⟨rfl,X,Z,T,A,f,l,O⟩;have q:=fA (C.out.kg o) O;have c0:=f.blk.cell (i:=0) rfl;have us:=mset f.map (B.out _ q) (H.out _ q) (by have:=p.out;omega) (by have:=x.out;omega) (by omega))
  | (go_at_call 97;go_must (refine us.mono ?_);rintro e w3 ⟨rfl,F',L,hF,hC⟩)
 go_ret;have S:=f.mapped (N':=N+1+1) (by have:=f.tot;have:=wo f.map.ord.flat k v;rw[iS f.map.ord];omega) L hF (fun _ h=>.inl h) hC;refine⟨rfl,_,((S.shut (E:=put Q.flatten k v) (W:=W) (iS f.map.ord k v) (oX R.out A (Ci C.out.map.ord.flat k v))).more (by omega)).mono (fun b _ hb=>?_),fun b hb=>?_,?_⟩
 ·rcases hb with(hb | hb) | hb
  ·exact .inl hb
  ·exact .inr (by have:=o.size;omega)
  ·exact .inr (by have:=q.size;omega)
 ·rcases hb with⟨hb,_⟩ | hb
  ·exact(l b hb).imp id (fun h=>by have:=o.size;omega)
  ·rcases hF b hb with r | r
   ·exact(l b (f.own.map b r)).imp id (fun h=>by have:=o.size;omega)
   ·exact .inr (by have:=q.size;omega)
 ·exact q.trans hC (fun b hb h=>(l b (f.own.map b h)).elim id (fun h=>by have:=o.size;omega))
theorem sset(h:SA w K D g E W n N)(b:BK w K kv k)(hv:BK w K vv v)(hn:n<=4000000000000000000)(f:N+2<=100000000) :
  Calls Tryz.prog 55 #[.pointer (some ⟨g,0,none⟩),kv,vv] w (Ends w K D g (if jF k v=0 then put E k v else E) W (n+1) (N+2) (.int .i64 (jF k v))):=by
 by_cases h0:k.length=0
 ·have e:jF k v=60:=by unfold jF; rw[if_pos (.inl h0)]
  rw[e,if_neg (by decide)];exact yh h b hv hn h0
 ·by_cases c:64 < k.length
  ·have e:jF k v=60:=by unfold jF; rw[if_pos (.inr c)]
   rw[e,if_neg (by decide)];exact xK h b hv hn h0 c
  ·by_cases a:4096 < v.length
   ·have e:jF k v=61:=by unfold jF; rw[if_neg (by omega),if_pos a]
    rw[e,if_neg (by decide)];exact Bn h b hv hn h0 c a
   ·have e:jF k v=0:=by unfold jF; rw[if_neg (by omega),if_neg a]
    rw[e,if_pos rfl];obtain⟨F,V,m,Q,i,T,o,hX,rfl,d⟩:=h.open;rcases List.eq_nil_or_concat T with rfl | ⟨l,j,rfl⟩
    ·exact yY hX d b hv hn f h0 c a
    ·rw[List.concat_eq_append] at hX d;exact AN hX d b hv hn f h0 c a
end
end Kv
end
end Go.Proofs.YtjejmkcjflhoiaaGreatDoor
