import Derived.Test.YtjejmkcjflhoiaaGreatDoorJag
import Derived.Laws.LoneSync
set_option maxRecDepth 100000
set_option maxHeartbeats 8000000
namespace Go.Proofs.YtjejmkcjflhoiaaGreatDoor
section
namespace Kv
open Pg
section
variable {k x v:List Int}{Q:List (List KV)}
abbrev aE:=List KV
def fj(E:aE):Prop:=E.Pairwise fun x y=>Lt x.1 y.1
def look(E:aE)(k:List Int):Option (List Int):=(E.find? (fun x=>decide (x.1=k))).map Prod.snd
def put(E:aE)(k v:List Int):aE:=E.filter (fun x=>decide (Lt x.1 k)) ++ (k,v) :: E.filter (fun x=>decide (Lt k x.1))
def rem(E:aE)(k:List Int):aE:=E.filter (fun x=>decide (¬ x.1=k))
theorem eB{α:Type}{p:α->Bool}{l:List α}(h:∀ x∈l,p x=true):l.filter p=l:=List.filter_eq_self.2 h
theorem iS{α:Type}{p:α->Bool}{l:List α}(h:∀ x∈l,p x=false):l.filter p=[]:=List.filter_eq_nil_iff.2 (fun x hx=>by rw[h x hx];simp)
structure Cut(k:List Int)(X Y:aE):Prop where
 lo:∀ x∈X,Lt x.1 k
 hi:∀ y∈Y,Lt k y.1
theorem Cut.nx{X Y:aE}(h:Cut k X Y):∀ x∈X,¬ x.1=k:=fun x hx e=>by have:=h.lo x hx;rw[e] at this;exact lt_irrefl _ this
theorem Cut.ny{X Y:aE}(h:Cut k X Y):∀ x∈Y,¬ x.1=k:=fun x hx e=>by have:=h.hi x hx;rw[e] at this;exact lt_irrefl _ this
theorem CQ{X:aE}(h:∀ x∈X,¬ x.1=k):look X k=none:=by
 unfold look;rw[List.find?_eq_none.2 (fun x hx=>by simp[h x hx])];rfl
theorem rP{X Y:aE}(h:∀ x∈X,¬ x.1=k):look (X ++ Y) k=look Y k:=by
 unfold look;rw[List.find?_append,List.find?_eq_none.2 (fun x hx=>by simp[h x hx])];simp
theorem Cut.sj{X Y:aE}(h:Cut k X Y):look (X ++ Y) k=none:=by rw[rP h.nx,CQ h.ny]
theorem Cut.oK{X Y:aE}(h:Cut k X Y):look (X ++ (k,x) :: Y) k=some x:=by
 rw[rP h.nx];simp[look]
theorem Cut.yg{X Y:aE}(h:Cut k X Y):put (X ++ Y) k v=X ++ (k,v) :: Y:=by
 unfold put;rw[List.filter_append,List.filter_append,eB (l:=X) (fun x hx=>decide_eq_true (h.lo x hx)),iS (l:=Y) (fun x hx=>decide_eq_false (h.hi x hx).not),iS (l:=X) (fun x hx=>decide_eq_false (h.lo x hx).not),eB (l:=Y) (fun x hx=>decide_eq_true (h.hi x hx))];simp
theorem Cut.ya{X Y:aE}(h:Cut k X Y):put (X ++ (k,x) :: Y) k v=X ++ (k,v) :: Y:=by
 unfold put;rw[List.filter_append,List.filter_append,eB (l:=X) (fun x hx=>decide_eq_true (h.lo x hx)),iS (l:=X) (fun x hx=>decide_eq_false (h.lo x hx).not),List.filter_cons,List.filter_cons,iS (l:=Y) (fun x hx=>decide_eq_false (h.hi x hx).not),eB (l:=Y) (fun x hx=>decide_eq_true (h.hi x hx)),decide_eq_false (lt_irrefl k)];simp
theorem Cut.zN{X Y:aE}(h:Cut k X Y):rem (X ++ Y) k=X ++ Y:=by
 unfold rem;rw[List.filter_append,eB (l:=X) (fun x hx=>decide_eq_true (h.nx x hx)),eB (l:=Y) (fun x hx=>decide_eq_true (h.ny x hx))]
theorem Cut.El{X Y:aE}(h:Cut k X Y):rem (X ++ (k,x) :: Y) k=X ++ Y:=by
 unfold rem;rw[List.filter_append,eB (l:=X) (fun x hx=>decide_eq_true (h.nx x hx)),List.filter_cons,eB (l:=Y) (fun x hx=>decide_eq_true (h.ny x hx))];simp
theorem qU{X Y:aE}(h:fj (X ++ (k,x) :: Y)):Cut k X Y:=by
 unfold fj at h;rw[List.pairwise_append,List.pairwise_cons] at h;exact⟨fun a ha=>h.2.2 a ha (k,x) List.mem_cons_self,fun b hb=>h.2.1.1 b hb⟩
theorem fj.cut{E:aE}(h:fj E)(k:List Int):∃ X Y,Cut k X Y/\((E=X ++ Y/\look E k=none)\/∃ x,E=X ++ (k,x) :: Y/\look E k=some x):=by
 induction E with
 | nil=>exact⟨[],[],⟨fun _ h=>by simp at h,fun _ h=>by simp at h⟩,.inl ⟨rfl,rfl⟩⟩
 | cons a E ih =>
  have b:=h;unfold fj at b;rw[List.pairwise_cons] at b;rcases qD a.1 k with g | he | d
  ·obtain⟨X,Y,c,r⟩:=ih b.2
   have hc:Cut k (a :: X) Y:=⟨fun x hx=>by
    rcases List.mem_cons.1 hx with rfl | hx
    ·exact g
    ·exact c.lo x hx,c.hi⟩
   refine⟨a :: X,Y,hc,?_⟩;rcases r with⟨e,_⟩ | ⟨x,e,_⟩
   ·subst e;exact .inl ⟨rfl,hc.sj⟩
   ·subst e;exact .inr ⟨x,rfl,hc.oK⟩
  ·have hc:Cut k [] E:=⟨fun _ h=>by simp at h,fun y hy=>by rw[<- he];exact b.1 y hy⟩
   obtain⟨i,f⟩:=a;simp only at he;subst he;exact⟨[],E,hc,.inr ⟨f,rfl,hc.oK⟩⟩
  ·have hc:Cut k [] (a :: E):=⟨fun _ h=>by simp at h,fun y hy=>by
    rcases List.mem_cons.1 hy with rfl | hy
    ·exact d
    ·exact d.trans (b.1 y hy)⟩
   exact⟨[],a :: E,hc,.inl ⟨rfl,hc.sj⟩⟩
theorem r8{X Y:aE}(h:fj (X ++ Y))(c:Cut k X Y):fj (X ++ (k,v) :: Y):=by
 unfold fj at h ⊢;rw[List.pairwise_append] at h;rw[List.pairwise_append,List.pairwise_cons];refine⟨h.1,⟨fun y hy=>c.hi y hy,h.2.1⟩,fun x hx y hy=>?_⟩;rcases List.mem_cons.1 hy with rfl | hy
 ·exact c.lo x hx
 ·exact h.2.2 x hx y hy
theorem BQ{X Y:aE}(h:fj (X ++ (k,v) :: Y)):fj (X ++ Y):=by
 unfold fj at h ⊢;rw[List.pairwise_append,List.pairwise_cons] at h;rw[List.pairwise_append];exact⟨h.1,h.2.1.2,fun x hx y hy=>h.2.2 x hx y (List.mem_cons_of_mem _ hy)⟩
theorem fj.put{E:aE}(h:fj E)(k v:List Int):fj (put E k v):=by
 obtain⟨X,Y,c,⟨rfl,_⟩ | ⟨x,rfl,_⟩⟩:=h.cut k
 ·rw[c.yg];exact r8 h c
 ·rw[c.ya];exact r8 (BQ h) c
theorem fj.rem{E:aE}(h:fj E)(k:List Int):fj (rem E k):=List.Pairwise.filter _ h
abbrev Und:=List Int × Option (List Int)
def y9(E:aE)(u:Und):aE:=match u.2 with
 | none=>rem E u.1
 | some v=>put E u.1 v
theorem Az{E:aE}(h:fj E)(k v:List Int):y9 (put E k v) (k,look E k)=E:=by
 obtain⟨X,Y,c,⟨rfl,e⟩ | ⟨x,rfl,e⟩⟩:=h.cut k
 ·rw[e,c.yg];exact c.El
 ·rw[e,c.ya];exact c.ya
theorem yP{E:aE}(h:fj E)(k:List Int):y9 (rem E k) (k,look E k)=E:=by
 obtain⟨X,Y,c,⟨rfl,e⟩ | ⟨x,rfl,e⟩⟩:=h.cut k
 ·rw[e,c.zN];exact c.zN
 ·rw[e,c.El];exact c.yg
def wN(U:List Und)(E:aE):aE:=U.foldr (fun u E=>y9 E u) E
theorem uX(U:List Und)(u:Und)(E:aE):wN (U ++ [u]) E=wN U (y9 E u):=by simp[wN]
def ll:List (List Und)->List aE->aE->Prop
 | [],[],_=>True
 | U :: J,e :: W,E=>wN U E=e/\ll J W e
 | _,_,_=>False
theorem iM(h:kL Q)(k v:List Int):(xc Q k v).flatten=put Q.flatten k v:=by
 cases hh:gN Q k
 ·obtain⟨X,Y,e1,e2,a,b⟩:=h.iR v hh;rw[e1,e2,Cut.yg ⟨a,b⟩]
 ·obtain⟨X,x,Y,e1,e2⟩:=h.wj v hh;have c:=qU (by have:=h.flat;rw[e1] at this;exact this);rw[e1,e2,c.ya]
theorem jT(h:kL Q)(k:List Int):gN Q k=(look Q.flatten k).isSome:=by
 cases hh:gN Q k
 ·obtain⟨X,Y,e1,_,a,b⟩:=h.iR [] hh;rw[e1,Cut.sj ⟨a,b⟩];rfl
 ·obtain⟨X,x,Y,e1,_⟩:=h.wj [] hh;have c:=qU (by have:=h.flat;rw[e1] at this;exact this);rw[e1,c.oK];rfl
theorem iK(h:kL Q)(k:List Int):(tO Q k).flatten=rem Q.flatten k:=by
 cases hh:gN Q k
 ·rw[xm hh];obtain⟨X,Y,e1,_,a,b⟩:=h.iR [] hh;rw[e1,Cut.zN ⟨a,b⟩]
 ·obtain⟨X,x,Y,e1,e2⟩:=h.Ek hh;have c:=qU (by have:=h.flat;rw[e1] at this;exact this);rw[e1,e2,c.El]
theorem EC(a:gN Q k=true):(k,yq Q k)∈Q.flatten:=by
 unfold gN thr at a;simp only[Bool.and_eq_true,Bool.not_eq_true',decide_eq_true_eq] at a;obtain⟨_,b⟩:=a;unfold yq;rw[List.getElem?_map] at b;obtain⟨x,hx,c⟩:=Option.map_eq_some_iff.1 b;rw[hx];simp only[Option.map_some,Option.getD_some];have hm:=List.mem_of_getElem? hx
 have d:x=(k,x.2):=by rw[<- c]
 rw[<- d];rw[List.getD_eq_getElem?_getD] at hm
 cases hq:Q[apl Q k]? with
 | none=>rw[hq] at hm;simp at hm
 | some p=>rw[hq] at hm;exact List.mem_flatten.2 ⟨p,List.mem_of_getElem? hq,hm⟩
theorem Cg(h:kL Q)(k:List Int):(if gN Q k then yq Q k else [])=(look Q.flatten k).getD []:=by
 cases hh:gN Q k
 ·have:=jT h k;rw[hh] at this
  cases hl:look Q.flatten k with
  | none=>rfl
  | some x=>rw[hl] at this;cases this
 ·have hm:=EC hh;obtain⟨X,Y,e⟩:=List.append_of_mem hm;have c:=qU (by have:=h.flat;rw[e] at this;exact this);rw[e,c.oK];rfl
theorem gB{E:aE}(h:look E k=some x):(k,x)∈E:=by
 unfold look at h;obtain⟨a,b,rfl⟩:=Option.map_eq_some_iff.1 h;have d:=List.mem_of_find?_eq_some b;have c:=List.find?_some b;simp only[decide_eq_true_eq] at c;rw[<- c];exact d
theorem wD{E:aE}(h:fj E)(k v:List Int):(put E k v).length<=E.length+1:=by
 obtain⟨X,Y,c,⟨rfl,_⟩ | ⟨x,rfl,_⟩⟩:=h.cut k
 ·rw[c.yg];simp;omega
 ·rw[c.ya];simp
theorem vN{E:aE}(k:List Int):(rem E k).length<=E.length:=List.length_filter_le _ _
end
end Kv
end
section
namespace Pg
open Go.RowKit Go.Lib
section
variable {L:List Pg}{N g b:Nat}{w w':World}{F D:Nat->Prop}{Q:List (List KV)}{P:List (List En)}{p:En->Prop}{kv:Value}{k:List Int}
structure Mp(w:World)(F D:Nat->Prop)(g:Nat)(Q:List (List KV))(N:Nat):Prop where
 ex:∃ L,abs (ens L)=Q/\bT w F D g L/\Ord (ens L)/\Shq (ens L)/\(ens L).flatten.length<=N/\∀ es∈ens L,∀ e∈es,e.kl.length<=1000000000/\e.vl.length<=1000000000
theorem wg:∀ {P:List (List En)},(∀ es∈P,1<=es.length)->P.length<=P.flatten.length
 | [],_=>Nat.le_refl _
 | a :: P,h=>by
  have h1:=h a List.mem_cons_self;have b:=wg (P:=P) fun es he=>h es (List.mem_cons_of_mem _ he)
  simp only[List.flatten_cons,List.length_append,List.length_cons];omega
theorem Shq.few(h:Shq (ens L))(hN:(ens L).flatten.length<=N)(hb:N<=100000000):L.length<=100000000:=by
 have h1:=wg fun es he=>(h.one es he).1
 have h2:(ens L).length=L.length:=by simp[ens]
 omega
theorem Mp.lt(M:Mp w F D g Q N)(hb:F b):b < w.heap.size:=by
 obtain⟨L,_,A,_⟩:=M.ex;exact A.lt hb
theorem Mp.noU(M:Mp w F D g Q N)(hb:F b)(cs:List Value):¬ Blk w b cs 5:=by
 obtain⟨L,_,A,_⟩:=M.ex;exact A.noU hb cs
theorem Mp.keep(M:Mp w F D g Q N)(hb:Below w.heap.size w w'):Mp w' F D g Q N:=by
 obtain⟨L,e,A,r⟩:=M.ex;exact⟨L,e,A.keep hb,r⟩
theorem Mp.same(M:Mp w F D g Q N)(a:∀ b,F b->w'.heap[b]?=w.heap[b]?)(c:∀ b,b < w.heap.size->D b->(∃ cs,Blk w b cs 5)->w'.heap[b]?=w.heap[b]?):Mp w' F D g Q N:=by
 obtain⟨L,e,A,r⟩:=M.ex;exact⟨L,e,A.same a c,r⟩
theorem Mp.chg{F':Nat->Prop}(M:Mp w F D g Q N)(hc:Chg F' w w')(h1:∀ b,F' b->¬ F b)(h2:∀ b,F' b->∀ cs,¬ Blk w b cs 5):Mp w' F D g Q N:=by
 obtain⟨L,e,A,r⟩:=M.ex;exact⟨L,e,A.chg hc h1 h2,r⟩
theorem Mp.mono{D':Nat->Prop}(M:Mp w F D g Q N)(hD:∀ b,b < w.heap.size->D b->D' b):Mp w F D' g Q N:=by
 obtain⟨L,e,A,r⟩:=M.ex;exact⟨L,e,A.mono hD,r⟩
theorem Mp.more{N':Nat}(M:Mp w F D g Q N)(h:N<=N'):Mp w F D g Q N':=by
 obtain⟨L,e,A,O,S,n,r⟩:=M.ex;exact⟨L,e,A,O,S,by omega,r⟩
theorem Mp.ord(M:Mp w F D g Q N):kL Q:=by
 obtain⟨L,e,A,O,_⟩:=M.ex;exact⟨_,e,O⟩
theorem Mp.len(M:Mp w F D g Q N):Q.flatten.length<=N:=by
 obtain⟨L,rfl,A,O,S,n,r⟩:=M.ex;rw[dz,List.length_map];exact n
theorem Mp.small(M:Mp w F D g Q N):∀ x∈Q.flatten,x.1.length<=1000000000/\x.2.length<=1000000000:=by
 obtain⟨L,rfl,A,O,S,n,r⟩:=M.ex;intro x hx;rw[dz] at hx;obtain⟨e,he,rfl⟩:=List.mem_map.1 hx;obtain⟨es,a,b⟩:=List.mem_flatten.1 he;exact r es a e b
theorem mT:(∀ es∈P,∀ e∈es,p e)<->∀ e∈P.flatten,p e :=
 ⟨fun h e he=>by obtain⟨es,h1,h2⟩:=List.mem_flatten.1 he;exact h es h1 e h2,fun h es he e hee=>h e (List.mem_flatten.2 ⟨es,he,hee⟩)⟩
theorem mnew:Calls Tryz.prog 42 #[] w fun e w'=>e=.returned (.pointer (some ⟨w.heap.size,0,none⟩))/\Mp w' (· = w.heap.size) (fun _=>False) w.heap.size [] 0/\Below w.heap.size w w' :=
 CM.mono fun e w' ⟨g,he,a,A,B⟩=>by
  subst a;exact⟨he,⟨[],rfl,A,⟨fun _ h=>by simp[ens] at h,List.Pairwise.nil⟩,Shq.nil,Nat.le_refl _,fun _ h=>by simp[ens] at h⟩,B⟩
theorem mset{vv:Value}{v:List Int}(M:Mp w F D g Q N)(j:By w kv k)(hv:By w vv v)(c:k.length<=1000000000)(a:v.length<=1000000000)(i:N<=100000000) :
  Calls Tryz.prog 97 #[.pointer (some ⟨g,0,none⟩),kv,vv] w fun e w'=>e=.returned (.bool (!gN Q k))/\∃ F',Mp w' F' (fun b=>D b\/w.heap.size<=b) g (xc Q k v) (N+1)/\(∀ b,F' b->F b\/w.heap.size<=b)/\Chg F w w':=by
 obtain⟨L,rfl,A,O,S,n,r⟩:=M.ex;refine(EA A O (fun es he=>(S.one es he).2) (S.few n i) j hv c a).mono fun e w' ⟨he,F',f,nk,nv,e1,d,hF,hc⟩=>?_
 refine⟨by rw[gV];exact he,F',⟨f,by rw[e1,pR],d,by rw[e1];exact O.set _,by rw[e1];exact S.set O _,?_,?_⟩,hF,hc⟩
 ·rw[e1,DW O];split<;>omega
 ·rw[e1];rw[mT] at r ⊢;intro x hx
  cases hh:has (ens L) k
  ·obtain⟨X,Y,e2,e3,_⟩:=gO O (e:=⟨nk,k,nv,v⟩) hh;rw[e3] at hx;rw[e2] at r;rcases List.mem_append.1 hx with h | h
   ·exact r x (List.mem_append_left _ h)
   ·rcases List.mem_cons.1 h with h | h
    ·subst h;exact⟨c,a⟩
    ·exact r x (List.mem_append_right _ h)
  ·obtain⟨X,y,Y,e2,hy,e3⟩:=gY O (e:=⟨nk,k,nv,v⟩) hh;rw[e3] at hx;rw[e2] at r;rcases List.mem_append.1 hx with h | h
   ·exact r x (List.mem_append_left _ h)
   ·rcases List.mem_cons.1 h with h | h
    ·subst h;exact⟨by simp only;rw[hy];exact c,a⟩
    ·exact r x (List.mem_append_right _ (List.mem_cons_of_mem _ h))
theorem mdel(M:Mp w F D g Q N)(f:By w kv k)(c:N<=100000000) :
  Calls Tryz.prog 113 #[.pointer (some ⟨g,0,none⟩),kv] w fun e w'=>e=.returned (.bool (gN Q k))/\∃ F',Mp w' F' D g (tO Q k) N/\(∀ b,F' b->F b\/w.heap.size<=b)/\Chg F w w':=by
 obtain⟨L,rfl,A,O,S,n,r⟩:=M.ex;refine(vu A O (fun es he=>(S.one es he).2) (S.few n c) f).mono fun e w' ⟨he,F',d,e1,a,hF,hc⟩=>?_
 refine⟨by rw[gV];exact he,F',⟨d,by rw[e1,wG],a,by rw[e1];exact O.del _,by rw[e1];exact S.del O _,?_,?_⟩,hF,hc⟩
 ·rw[e1]
  cases hh:has (ens L) k
  ·rw[rh hh];exact n
  ·obtain⟨X,x,Y,e2,_,e3⟩:=mZ O hh;rw[e2] at n;rw[e3];simp only[List.length_append,List.length_cons] at n ⊢;omega
 ·rw[e1];rw[mT] at r ⊢;intro x hx
  cases hh:has (ens L) k
  ·rw[rh hh] at hx;exact r x hx
  ·obtain⟨X,y,Y,e2,_,e3⟩:=mZ O hh;rw[e3] at hx;rw[e2] at r;rcases List.mem_append.1 hx with h | h
   ·exact r x (List.mem_append_left _ h)
   ·exact r x (List.mem_append_right _ (List.mem_cons_of_mem _ h))
theorem mget(M:Mp w F D g Q N)(b:By w kv k)(a:N<=100000000) :
  Calls Tryz.prog 165 #[.pointer (some ⟨g,0,none⟩),kv] w fun e w'=>∃ v,e=.returned (.tuple #[v,.bool (gN Q k)])/\OB w' (w.heap.size <= ·) v (if gN Q k then yq Q k else [])/\Below w.heap.size w w':=by
 obtain⟨L,rfl,A,O,S,n,r⟩:=M.ex;rw[gV,DH];exact DZ A O (fun es he=>by have:=(S.one es he).2;omega) (S.few n a) b fun p c e he=>(r p.es (List.mem_map.2 ⟨p,c,rfl⟩) e he).2
end
end Pg
end
section
namespace Kv
open Go.RowKit Go.Lib Pg
section
variable {V D V' D' K:Nat->Prop}{w w':World}{v c jv:Value}{l:List Int}{g b n N:Nat}{cs cs':List Value}{oj:Option Nat}{E:aE}{W:List aE}
theorem KF:Kd Tryz.prog 271 1 1 8 .nilFunc:=⟨by kernel_rfl,by kernel_rfl,rfl,by simp[Value.cells,Value.oneCell'],by decide⟩
structure oA(w:World)(V D:Nat→Prop)(g:Nat)(u:Und)(c:Value):Prop where
  short:u.1.length≤1000000000∧∀ x,u.2=some x→x.length≤1000000000
  ex:∃ s1 s2 kv,V s1∧V s2∧Blk w s1 [.pointer (some ⟨g,0,none⟩)] 37∧Blk w s2 [kv] 87∧OB w D kv u.1 ∧
    ((u.2 = none ∧ c = .func (.func 194) #[] #[.pointer (some ⟨s1, 0, none⟩), .pointer (some ⟨s2, 0, none⟩)]) ∨
     ∃ s3 vv x,V s3∧Blk w s3 [vv] 87∧OB w D vv x∧u.2=some x∧c=.func (.func 195) #[] #[.pointer (some ⟨s1,0,none⟩),.pointer (some ⟨s2,0,none⟩),.pointer (some ⟨s3,0,none⟩)])
structure lR(V D:Nat->Prop)(w w':World):Prop where
 var:∀ b cs t,V b->Blk w b cs t->(t=37\/t=87)->w'.heap[b]?=w.heap[b]?
 byt:∀ b,b < w.heap.size->D b->(∃ cs,Blk w b cs 5)->w'.heap[b]?=w.heap[b]?
theorem lR.ob(h:lR V D w w')(O:OB w D v l):OB w' D v l :=
 ⟨O.oct,O.ex.imp id (by
  rintro⟨b,c,e,hd,hR⟩
  exact⟨b,c,e,hd,hR.same (h.byt b hR.lt hd hR.kind)⟩)⟩
theorem oA.stay{u:Und}(h:oA w V D g u c)(hs:lR V D w w'):oA w' V D g u c:=by
 obtain⟨s1,s2,kv,v1,v2,b,d,ok,r⟩:=h.ex;refine⟨h.short,s1,s2,kv,v1,v2,b.same (hs.var _ _ _ v1 b (.inl rfl)),d.same (hs.var _ _ _ v2 d (.inr rfl)),hs.ob ok,r.imp id ?_⟩;rintro⟨s3,vv,x,v3,a,f,e⟩;exact⟨s3,vv,x,v3,a.same (hs.var _ _ _ v3 a (.inr rfl)),hs.ob f,e⟩
theorem oA.mono{u:Und}(h:oA w V D g u c)(a:∀ b,V b->V' b)(d:∀ b,b < w.heap.size->D b->D' b):oA w V' D' g u c:=by
 obtain⟨s1,s2,kv,v1,v2,i,k,ok,r⟩:=h.ex;refine⟨h.short,s1,s2,kv,a _ v1,a _ v2,i,k,ok.mono d,r.imp id ?_⟩;rintro⟨s3,vv,x,v3,f,j,e⟩;exact⟨s3,vv,x,a _ v3,f,j.mono d,e⟩
theorem oA.one{u:Und}(h:oA w V D g u c):c.oneCell'=true:=by
 obtain⟨s1,s2,kv,v1,v2,b1,b2,ok,⟨_,rfl⟩ | ⟨s3,vv,x,v3,b3,ov,_,rfl⟩⟩:=h.ex<;>rfl
def iY(w:World)(V D:Nat->Prop)(g:Nat)(U:List Und)(cs:List Value):Prop:=cs.length=U.length/\∀ (i:Nat) u c,U[i]?=some u->cs[i]?=some c->oA w V D g u c
theorem iY.stay{U:List Und}(h:iY w V D g U cs)(hs:lR V D w w'):iY w' V D g U cs:=⟨h.1,fun i u c hu hc=>(h.2 i u c hu hc).stay hs⟩
theorem iY.mono{U:List Und}(h:iY w V D g U cs)(hV:∀ b,V b->V' b)(hD:∀ b,b < w.heap.size->D b->D' b):iY w V' D' g U cs:=⟨h.1,fun i u c hu hc=>(h.2 i u c hu hc).mono hV hD⟩
theorem iY.app{U b:List Und}(h:iY w V D g U cs)(a:iY w V D g b cs'):iY w V D g (U ++ b) (cs ++ cs'):=by
 refine⟨by rw[List.length_append,List.length_append,h.1,a.1],fun i u c hu hc=>?_⟩;by_cases hi:i < U.length
 ·rw[List.getElem?_append_left hi] at hu;rw[List.getElem?_append_left (by rw[h.1];exact hi)] at hc;exact h.2 i u c hu hc
 ·rw[List.getElem?_append_right (by omega)] at hu;rw[List.getElem?_append_right (by rw[h.1];omega),h.1] at hc;exact a.2 _ u c hu hc
theorem iY.one{U:List Und}(h:iY w V D g U cs):∀ c∈cs,c.oneCell'=true:=fun c hc=>by
 obtain⟨i,hi⟩:=List.getElem?_of_mem hc;have a:=(List.getElem?_eq_some_iff.1 hi).1;exact(h.2 i (U[i]'(by rw[<- h.1];exact a)) c (List.getElem?_eq_getElem _) hi).one
structure Jr where
 U:List Und
 v:Value
 o:Option Nat
def JrA(w:World)(V D:Nat->Prop)(g:Nat)(j:Jr):Prop:=∃ cs,iY w V D g j.U cs/\((j.o=none/\j.v=.slice none 0 0/\j.U=[])\/∃ b c,j.o=some b/\j.v=.slice (some ⟨b,0,none⟩) j.U.length c/\Rw w 1 1 b j.U.length c cs)
theorem JrA.stay{j:Jr}(h:JrA w V D g j)(hs:lR V D w w')(d:∀ b,j.o=some b->w'.heap[b]?=w.heap[b]?):JrA w' V D g j:=by
 obtain⟨cs,hc,r⟩:=h;refine⟨cs,hc.stay hs,r.imp id ?_⟩;rintro⟨b,c,e1,e2,a⟩;exact⟨b,c,e1,e2,a.same (d b e1)⟩
theorem JrA.mono{j:Jr}(h:JrA w V D g j)(hV:∀ b,V b->V' b)(hD:∀ b,b < w.heap.size->D b->D' b):JrA w V' D' g j:=by
 obtain⟨cs,hc,r⟩:=h;exact⟨cs,hc.mono hV hD,r⟩
theorem JrA.kind{j:Jr}(h:JrA w V D g j)(hb:j.o=some b):∃ cs,Blk w b cs 1:=by
 obtain⟨cs,hc,⟨e,_⟩ | ⟨b',c,e,_,hR⟩⟩:=h
 ·rw[hb] at e;cases e
 ·rw[hb] at e;cases e;exact hR.kind
structure JnA(w:World)(V D:Nat->Prop)(g:Nat)(jv:Value)(T:List Jr)(oj:Option Nat):Prop where
 row:(oj=none/\jv=.slice none 0 0/\T=[])\/∃ b c,oj=some b/\jv=.slice (some ⟨b,0,none⟩) T.length c/\Rw w 274 1 b T.length c (T.map Jr.v)
 each:∀ j∈T,JrA w V D g j
 apart:(T.filterMap Jr.o).Nodup
theorem JnA.stay{T:List Jr}(h:JnA w V D g jv T oj)(hs:lR V D w w')(e:∀ b,oj=some b->w'.heap[b]?=w.heap[b]?)(hb:∀ j∈T,∀ b,j.o=some b->w'.heap[b]?=w.heap[b]?):JnA w' V D g jv T oj :=
 ⟨h.row.imp id (by rintro⟨b,c,e1,e2,d⟩;exact⟨b,c,e1,e2,d.same (e b e1)⟩),fun j a=>(h.each j a).stay hs (hb j a),h.apart⟩
theorem JnA.mono{T:List Jr}(h:JnA w V D g jv T oj)(hV:∀ b,V b->V' b)(hD:∀ b,b < w.heap.size->D b->D' b):JnA w V' D' g jv T oj :=
 ⟨h.row,fun j hj=>(h.each j hj).mono hV hD,h.apart⟩
theorem JnA.kind{T:List Jr}(h:JnA w V D g jv T oj)(hb:oj=some b):∃ cs,Blk w b cs 274:=by
 rcases h.row with⟨e,_⟩ | ⟨b',c,e,_,hR⟩
 ·rw[hb] at e;cases e
 ·rw[hb] at e;cases e;exact hR.kind
def tot(T:List Jr):Nat:=(T.map fun j=>j.U.length).sum
structure Own(w:World)(K F V:Nat->Prop)(g:Nat)(T:List Jr)(oj:Option Nat):Prop where
 top:K g
 map:∀ b,F b->K b
 var:∀ b,V b->K b
 jrn:∀ b,oj=some b->K b
 bck:∀ j∈T,∀ b,j.o=some b->K b
 kind:∀ b,K b->∃ cs t,Blk w b cs t/\t≠5
 p5:¬ F g
 uE:∀ b,V b->¬ F b
 rX:∀ b,oj=some b->¬ F b
 ox:∀ j∈T,∀ b,j.o=some b->¬ F b
 vk:∀ b,V b->∃ cs t,Blk w b cs t/\(t=37\/t=87)
structure SA(w:World)(K D:Nat->Prop)(g:Nat)(E:aE)(W:List aE)(n N:Nat):Prop where
 ex:∃ F V m Q jv T oj,Blk w g [.pointer (some ⟨m,0,none⟩),jv,.int .i64 n] 85/\Mp w F D m Q N/\Q.flatten=E/\JnA w V D g jv T oj/\ll (T.reverse.map Jr.U) W E/\tot T+E.length<=N/\T.length<=16/\Own w K F V g T oj
theorem SA.lt(h:SA w K D g E W n N)(hb:K b):b < w.heap.size:=by
 obtain⟨F,V,m,Q,jv,T,oj,_,_,_,_,_,_,_,O⟩:=h.ex;obtain⟨cs,t,h,_⟩:=O.kind b hb;exact h.lt
theorem SA.top(h:SA w K D g E W n N):K g:=by
 obtain⟨F,V,m,Q,jv,T,oj,_,_,_,_,_,_,_,O⟩:=h.ex;exact O.top
theorem Own.same{F:Nat->Prop}{T:List Jr}(O:Own w K F V g T oj)(d:∀ b,K b->w'.heap[b]?=w.heap[b]?):Own w' K F V g T oj :=
 ⟨O.top,O.map,O.var,O.jrn,O.bck,fun b hb=>by
  obtain⟨cs,t,c,a⟩:=O.kind b hb;exact⟨cs,t,c.same (d b hb),a⟩,O.p5,O.uE,O.rX,O.ox,fun b hv=>by
  obtain⟨cs,t,c,a⟩:=O.vk b hv
  exact⟨cs,t,c.same (d b (O.var b hv)),a⟩⟩
theorem SA.same(h:SA w K D g E W n N)(a:∀ b,K b->w'.heap[b]?=w.heap[b]?)(d:∀ b,b < w.heap.size->D b->(∃ cs,Blk w b cs 5)->w'.heap[b]?=w.heap[b]?):SA w' K D g E W n N:=by
 obtain⟨F,V,m,Q,i,T,k,hb,hm,he,p,f,l,o,O⟩:=h.ex
 have hs:lR V D w w':=⟨fun b _ _ hv _ _=>a b (O.var b hv),d⟩
 exact⟨F,V,m,Q,i,T,k,hb.same (a g O.top),hm.same (fun b hF=>a b (O.map b hF)) d,he,p.stay hs (fun b e=>a b (O.jrn b e)) (fun j c b e=>a b (O.bck j c b e)),f,l,o,O.same a⟩
theorem SA.keep(h:SA w K D g E W n N)(hb:Below w.heap.size w w'):SA w' K D g E W n N:=h.same (fun b hK=>hb.block b (h.lt hK)) (fun b hl _ _=>hb.block b hl)
theorem SA.chg{a:Nat->Prop}(h:SA w K D g E W n N)(hc:Chg a w w')(d:∀ b,a b->¬ K b)(i:∀ b,a b->∀ cs,¬ Blk w b cs 5):SA w' K D g E W n N :=
 h.same (fun b c=>hc.same b (h.lt c) fun f=>d b f c) (fun b e _ j=>hc.same b e fun f=>by obtain⟨cs,k⟩:=j;exact i b f cs k)
theorem SA.mono(h:SA w K D g E W n N)(a:∀ b,b < w.heap.size->D b->D' b):SA w K D' g E W n N:=by
 obtain⟨F,V,m,Q,i,T,j,hb,hm,he,e,f,c,d,O⟩:=h.ex;exact⟨F,V,m,Q,i,T,j,hb,hm.mono a,he,e.mono (fun _ h=>h) a,f,c,d,O⟩
theorem SA.more{N':Nat}(h:SA w K D g E W n N)(a:N<=N'):SA w K D g E W n N':=by
 obtain⟨F,V,m,Q,f,T,i,hb,hm,he,d,e,b,c,O⟩:=h.ex;exact⟨F,V,m,Q,f,T,i,hb,hm.more a,he,d,e,Nat.le_trans b a,c,O⟩
theorem SA.size(h:SA w K D g E W n N):E.length<=N:=by
 obtain⟨F,V,m,Q,jv,T,oj,hb,hm,rfl,_⟩:=h.ex;exact hm.len
theorem SA.small(h:SA w K D g E W n N):∀ x∈E,x.1.length<=1000000000/\x.2.length<=1000000000:=by
 obtain⟨F,V,m,Q,jv,T,oj,hb,hm,rfl,_⟩:=h.ex;exact hm.small
end
end Kv
end
section
namespace Kv
open Go.RowKit Go.Lib Pg
attribute [local go_sem] Oper.semAt_some
section
variable {w w':World}{K D F V:Nat->Prop}{g n N m:Nat}{E:aE}{W:List aE}{Q:List (List KV)}{jv kv:Value}{T:List Jr}{oj:Option Nat}{x:Int}{cs:List Value}{ao:Option Addr}{k:List Int}
structure SX(w:World)(K D F V:Nat->Prop)(g m:Nat)(Q:List (List KV))(jv:Value)(T:List Jr)(oj:Option Nat)(n N:Nat):Prop where
 blk:Blk w g [.pointer (some ⟨m,0,none⟩),jv,.int .i64 n] 85
 map:Mp w F D m Q N
 jn:JnA w V D g jv T oj
 tot:tot T+Q.flatten.length<=N
 len:T.length<=16
 own:Own w K F V g T oj
theorem SA.open(h:SA w K D g E W n N):∃ F V m Q jv T oj,SX w K D F V g m Q jv T oj n N/\Q.flatten=E/\ll (T.reverse.map Jr.U) W E:=by
 obtain⟨F,V,m,Q,jv,T,oj,hb,hm,he,c,d,a,b,O⟩:=h.ex;exact⟨F,V,m,Q,jv,T,oj,⟨hb,hm,c,by rw[he];exact a,b,O⟩,he,d⟩
theorem SX.shut(h:SX w K D F V g m Q jv T oj n N)(he:Q.flatten=E)(a:ll (T.reverse.map Jr.U) W E):SA w K D g E W n N :=
 ⟨F,V,m,Q,jv,T,oj,h.blk,h.map,he,h.jn,a,by have:=h.tot;rw[he] at this;exact this,h.len,h.own⟩
theorem l9{x:Nat}{t:TypeId}(hx:Blk w x cs t)(f:t≠37)(h:t≠87)(i:t≠5)(hc:Chg (·=x) w w'):lR V D w w' :=
 ⟨fun b c l _ hb d=>hc.same b hb.lt (fun e=>by
  have a:b=x:=e;subst a;have:=(hx.eq hb).2;subst this;exact d.elim f h),fun b g _ j=>hc.same b g (fun e=>by
  have a:b=x:=e;subst a;obtain⟨c,k⟩:=j
  exact i (hx.eq k).2)⟩
theorem Own.chg1{x:Nat}(O:Own w K F V g T oj)(hs:lR V D w w')(hc:Chg (·=x) w w'){t:TypeId}(hx:Blk w' x cs t)(a:t≠5):Own w' K F V g T oj :=
 ⟨O.top,O.map,O.var,O.jrn,O.bck,fun b hb=>by
  by_cases e:b=x
  ·subst e;exact⟨cs,t,hx,a⟩
  ·obtain⟨f,h,c,d⟩:=O.kind b hb;exact⟨f,h,c.chg hc e,d⟩,O.p5,O.uE,O.rX,O.ox,fun b hv=>by
  obtain⟨cs,t,c,a⟩:=O.vk b hv
  exact⟨cs,t,c.same (hs.var b cs t hv c a),a⟩⟩
theorem SX.top{d:Nat}(h:SX w K D F V g m Q jv T oj n N)(hc:Chg (·=g) w w')(hb:Blk w' g [.pointer (some ⟨m,0,none⟩),jv,.int .i64 d] 85):SX w' K D F V g m Q jv T oj d N :=
 ⟨hb,h.map.chg hc (fun b e hF=>h.own.p5 (by have a:b=g:=e; exact a▸hF)) (fun b e cs k=>by
   have a:b=g:=e;subst a
   exact absurd (h.blk.eq k).2 (by decide)),h.jn.stay (l9 h.blk (by decide) (by decide) (by decide) hc)
   (fun b e=>by
    obtain⟨cs,k⟩:=h.jn.kind e
    exact hc.same b k.lt (fun a=>by
     have c:b=g:=a;subst c
     exact absurd (h.blk.eq k).2 (by decide)))
   (fun j f b e=>by
    obtain⟨cs,k⟩:=(h.jn.each j f).kind e
    exact hc.same b k.lt (fun a=>by
     have c:b=g:=a;subst c
     exact absurd (h.blk.eq k).2 (by decide))),h.tot,h.len,h.own.chg1 (l9 (D:=D) h.blk (by decide) (by decide) (by decide) hc) hc hb (by decide)⟩
theorem SX.keep(h:SX w K D F V g m Q jv T oj n N)(hb:Below w.heap.size w w'):SX w' K D F V g m Q jv T oj n N:=by
 have a:∀ b,K b->w'.heap[b]? = w.heap[b]? := fun b f=>by
  obtain⟨cs,t,k,_⟩:=h.own.kind b f;exact hb.block b k.lt
 exact⟨h.blk.keep hb,h.map.keep hb,h.jn.stay ⟨fun b _ _ _ k _=>hb.block b k.lt,fun b c _ _=>hb.block b c⟩ (fun b e=>a b (h.own.jrn b e)) (fun j d b e=>a b (h.own.bck j d b e)),h.tot,h.len,h.own.same a⟩
theorem uF{a:Addr}(hc:w.cell? a=some (.int .i64 x))(b:w.frozen? a=false)(d:0<=x)(c:x<=4000000000000000000) :
  (callFunc 193 #[.pointer (some a),.int .i64 1]).run Tryz.prog w=.ok (.value (.int .i64 (x+1))) (w.setCell a (.int .i64 (x+1))) :=
 run_call_add Tryz.func193 (by kernel_rfl) (by kernel_rfl) (by kernel_rfl) .i64 (by kernel_rfl) hc b (by
  have e:IntKind.i64.wrap (x+1)=x+1:=by rw[IntKind.wrap_i64];omega
  simp[Op.intArith,e])
theorem CE(hc:w.cell? ⟨g,2,none⟩=some (.int .i64 x))(d:w.frozen? ⟨g,2,none⟩=false)(f:0<=x)(c:x<=4000000000000000000) :
  Calls Tryz.prog 143 #[.pointer (some ⟨g,2,none⟩),.int .i64 1] w fun e w'=>e=.returned (.int .i64 (x+1))/\w'=w.setCell ⟨g,2,none⟩ (.int .i64 (x+1)):=by
 have b:=uF hc d f c;go_enter Tryz.func143,Tryz.ntmps143;go_wp2_with (simp only[b]);go_ret;exact⟨rfl,rfl⟩
theorem kS(hc:w.cell? ⟨g,2,none⟩=some (.int .i64 x))(b:w.frozen? ⟨g,2,none⟩=false)(d:0<=x)(c:x<=4000000000000000000) :
  Calls Tryz.prog 95 #[.pointer (some ⟨g,0,none⟩)] w fun e w'=>e=.returned (.tuple #[])/\w'=w.setCell ⟨g,2,none⟩ (.int .i64 (x+1)):=by
 have u:=CE hc b d c;clear hc b;go_enter Tryz.func95,Tryz.ntmps95;go_wp2_with (go_at_call 143;refine u.mono ?_;rintro e f ⟨rfl,rfl⟩);go_end0;exact⟨rfl,rfl⟩
theorem gu(h:SX w K D F V g m Q jv T oj n N)(hn:n<=4000000000000000000) :
  Calls Tryz.prog 95 #[.pointer (some ⟨g,0,none⟩)] w fun e w'=>e=.returned (.tuple #[])/\SX w' K D F V g m Q jv T oj (n+1) N/\Chg (·=g) w w':=by
 refine(kS (h.blk.cell (i:=2) rfl) (h.blk.free 2) (by omega) (by omega)).mono ?_
 rintro e w' ⟨rfl,rfl⟩
 have hc:Chg (·=g) w (w.setCell ⟨g,2,none⟩ (.int .i64 ((n:Int)+1))):=(Chg.refl (·=g) w).cell (.inl rfl) _;refine⟨rfl,h.top hc ?_,hc⟩;have:=h.blk.setCell (i:=2) (.int .i64 ((n:Int)+1));exact this
theorem oT{c:Nat}{b nv:Value}(h:Blk w g [b,.slice ao n c,nv] 85) :
  Calls Tryz.prog 144 #[.pointer (some ⟨g,0,none⟩)] w fun e w'=>e=.returned (.int .i64 n)/\w'=w:=by
 have c1:=h.cell (i:=1) rfl;clear h;go_enter Tryz.func144,Tryz.ntmps144;go_wp2;go_ret;exact⟨rfl,rfl⟩
theorem JnA.shape(h:JnA w V D g jv T oj):∃ ao c,jv=.slice ao T.length c:=by
 rcases h.row with⟨_,e,rfl⟩ | ⟨b,c,_,e,_⟩
 ·exact⟨none,0,e⟩
 ·exact⟨_,c,e⟩
theorem Bd(h:SX w K D F V g m Q jv T oj n N) :
  Calls Tryz.prog 144 #[.pointer (some ⟨g,0,none⟩)] w fun e w'=>e=.returned (.int .i64 T.length)/\w'=w:=by
 obtain⟨a,c,e⟩:=h.jn.shape;have hb:=h.blk;rw[e] at hb;exact oT hb
theorem snew:Calls Tryz.prog 16 #[] w fun e w'=>∃ g K,e=.returned (.pointer (some ⟨g,0,none⟩))/\SA w' K (fun _=>False) g [] [] 0 0/\(∀ b,K b->w.heap.size<=b)/\Below w.heap.size w w':=by
 have u:=mnew (w:=w);go_enter Tryz.func16,Tryz.ntmps16;go_wp2_with (go_at_call 42;refine u.mono ?_;rintro e c ⟨rfl,M,B⟩);go_ret;have f:=M.lt (b:=w.heap.size) rfl;have al:=ae c (.cells #[.pointer (some ⟨w.heap.size,0,none⟩),.slice none 0 0,.int .i64 0] 85);have d:=aD c [.pointer (some ⟨w.heap.size,0,none⟩),.slice none 0 0,.int .i64 0] 85;have M2:=M.keep al;refine⟨c.heap.size,fun b=>b=w.heap.size\/b=c.heap.size,rfl,⟨_,fun _=>False,_,_,_,[],none,d,M2,rfl,⟨.inl ⟨rfl,rfl,rfl⟩,fun _ h=>by simp at h,List.nodup_nil⟩,trivial,by decide,by decide,?_⟩,fun b hb=>by have:=B.size;omega,aA B al⟩;refine⟨.inr rfl,fun b hb=>.inl hb,fun _ h=>h.elim,(fun _ h=>by cases h),(fun _ h=>by simp at h),fun b hb=>?_,(fun h=>by have i:c.heap.size=w.heap.size:=h;omega),fun _ h=>h.elim,(fun _ h=>by cases h),(fun _ h=>by simp at h),fun _ h=>h.elim⟩;rcases hb with rfl | rfl
 ·obtain⟨L,_,A,_⟩:=M2.ex;exact A.kind _ rfl
 ·exact⟨_,_,d,by decide⟩
theorem jX(h:SX w K D F V g m Q jv T oj n N)(a:By w kv k)(b:N<=100000000) :
  Calls Tryz.prog 165 #[.pointer (some ⟨m,0,none⟩),kv] w fun e w'=>∃ v,e=.returned (.tuple #[v,.bool (look Q.flatten k).isSome])/\OB w' (w.heap.size <= ·) v ((look Q.flatten k).getD [])/\Below w.heap.size w w':=by
 have u:=mget h.map a b;rw[Cg h.map.ord,jT h.map.ord] at u;exact u
theorem vz(h:SX w K D F V g m Q jv T oj n N)(b:By w kv k)(d:N<=100000000) :
  Calls Tryz.prog 112 #[.pointer (some ⟨g,0,none⟩),kv] w fun e w'=>e=.returned (.bool (look Q.flatten k).isSome)/\Below w.heap.size w w':=by
 have c0:=h.blk.cell (i:=0) rfl;have u:=jX h b d;obtain⟨f,c,rfl,-⟩:=id b.ex;generalize (look Q.flatten k).isSome=r at *;generalize (look Q.flatten k).getD []=L at *;clear h b;go_enter Tryz.func112,Tryz.ntmps112;go_wp2_with (go_at_call 165;refine u.mono ?_;rintro e j ⟨v,rfl,O,B⟩;obtain⟨a1,c1,rfl,-⟩:=id O.by.ex);go_ret;exact⟨rfl,B⟩
end
end Kv
end
section
namespace Kv
open Go.RowKit Go.Lib Pg
attribute [local go_sem] Oper.semAt_some
section
variable {w w':World}{K D F V D':Nat->Prop}{g m n N o:Nat}{Q Q':List (List KV)}{jv v u kv:Value}{T:List Jr}{oj:Option Nat}{ao:Option Addr}
theorem aC{p:Prop}(h:p):Hid p:=h
theorem SX.vars{S:Nat->Prop}(h:SX w K D F V g m Q jv T oj n N)(d:∀ b,S b->¬ F b)(a:∀ b,S b->∃ cs t,Blk w b cs t/\(t=37\/t=87))(c:∀ b,b < w.heap.size->D b->D' b) :
  SX w (fun b=>K b\/S b) D' F (fun b=>V b\/S b) g m Q jv T oj n N :=
 ⟨h.blk,h.map.mono c,h.jn.mono (fun _=>.inl) c,h.tot,h.len,.inl h.own.top,fun b hb=>.inl (h.own.map b hb),fun b hb=>hb.imp (h.own.var b) id,fun b hb=>.inl (h.own.jrn b hb),fun j f b hb=>.inl (h.own.bck j f b hb),fun b hb=>hb.elim (h.own.kind b) (fun hs=>by
  obtain⟨cs,t,k,e⟩:=a b hs
  exact⟨cs,t,k,by rcases e with e | e<;>subst e<;>decide⟩),h.own.p5,fun b hb=>hb.elim (h.own.uE b) (d b),h.own.rX,h.own.ox,fun b hb=>hb.elim (h.own.vk b) (a b)⟩
theorem SX.mapped{F':Nat->Prop}{N':Nat}(h:SX w K D F V g m Q jv T oj n N)(p:Kv.tot T+Q'.flatten.length<=N')(o:Mp w' F' D' m Q' N')(hF:∀ b,F' b->F b\/w.heap.size<=b)(q:∀ b,D b->D' b)(hc:Chg F w w') :
  SX w' (fun b=>(K b/\¬ F b)\/F' b) D' F' V g m Q' jv T oj n N':=by
 have d:∀ b,K b->b < w.heap.size:=fun b hb=>by obtain⟨cs,t,k,_⟩:=h.own.kind b hb;exact k.lt
 have no:∀ b,K b->¬ F b->¬ F' b:=fun b hb hn hf=>by
  rcases hF b hf with l | l
  ·exact hn l
  ·have:=d b hb;omega
 have hs:lR V D w w':=⟨fun b _ _ hv k _=>hc.same b k.lt (h.own.uE b hv),fun b r _ k=>hc.same b r (fun f=>by obtain⟨cs,k⟩:=k;exact h.map.noU f cs k)⟩
 have a:JnA w' V D g jv T oj:=h.jn.stay hs (fun b e=>hc.same b (d b (h.own.jrn b e)) (h.own.rX b e)) (fun j a b e=>hc.same b (d b (h.own.bck j a b e)) (h.own.ox j a b e))
 refine⟨h.blk.chg hc h.own.p5,o,a.mono (fun _ h=>h) (fun b _=>q b),p,h.len,.inl ⟨h.own.top,h.own.p5⟩,fun b=>.inr,fun b hb=>.inl ⟨h.own.var b hb,h.own.uE b hb⟩,fun b hb=>.inl ⟨h.own.jrn b hb,h.own.rX b hb⟩,fun j a b hb=>.inl ⟨h.own.bck j a b hb,h.own.ox j a b hb⟩,fun b hb => ?_,no g h.own.top h.own.p5,fun b hb=>no b (h.own.var b hb) (h.own.uE b hb),fun b hb=>no b (h.own.jrn b hb) (h.own.rX b hb),fun j a b hb=>no b (h.own.bck j a b hb) (h.own.ox j a b hb),fun b hv=>by
  obtain⟨cs,t,k,c⟩:=h.own.vk b hv
  exact⟨cs,t,k.same (hs.var b cs t hv k c),c⟩⟩
 have i:∀ b,F' b->∃ cs t,Blk w' b cs t/\t≠5:=fun b hf=>by
  obtain⟨L,_,A,_⟩:=o.ex;exact A.kind b hf
 rcases hb with⟨hb,hf⟩ | hb
 ·obtain⟨cs,t,k,c⟩:=h.own.kind b hb;exact⟨cs,t,k.chg hc hf,c⟩
 ·exact i b hb
theorem E7(c:w.cell? ⟨g,o,none⟩=some v):(loadVar 37 ⟨g,o,none⟩).run Tryz.prog w=.ok v w:=by go_simp
theorem Bh(c:w.cell? ⟨g,o,none⟩=some v):(loadVar 77 ⟨g,o,none⟩).run Tryz.prog w=.ok v w:=by go_simp
theorem E5(c:w.cell? ⟨g,o,none⟩=some v):(loadVar 87 ⟨g,o,none⟩).run Tryz.prog w=.ok v w:=by go_simp
theorem lX{a:Act}{o:Oper}(k q:Nat){c:Nat}(d:o.op=.store 87 (.tmp k) (.tmp q))(b:a.eval (.tmp k)=.pointer (some ⟨g,0,none⟩))(f:a.eval (.tmp q)=.slice ao n c)(hc:w.cell? ⟨g,0,none⟩=some u)(hf:w.frozen? ⟨g,0,none⟩=false) :
  (execOp a.eval o).run Tryz.prog w=.ok .skip (w.setCell ⟨g,0,none⟩ (.slice ao n c)):=by
 simp only[execOp,d,b,f];go_simp
def Rds(g m s1 s2:Nat)(jv:Value)(n:Int)(kv:Value)(w:World):Prop:=Blk w s1 [.pointer (some ⟨g,0,none⟩)] 37/\Blk w g [.pointer (some ⟨m,0,none⟩),jv,.int .i64 n] 85/\Blk w s2 [kv] 87
theorem Rds.keep{s1 s2:Nat}{n:Int}(h:Rds g m s1 s2 jv n kv w)(hb:Below w.heap.size w w'):Rds g m s1 s2 jv n kv w':=⟨h.1.keep hb,h.2.1.keep hb,h.2.2.keep hb⟩
end
end Kv
end
section
namespace Kv
open Go.RowKit Go.Lib Pg
attribute [local go_sem] Oper.semAt_some
section
variable {w:World}{D:Nat->Prop}{v:Value}{l:List Int}{cs:List Value}
theorem iE{w':World}{x:Nat}(hc:Chg (·=x) w w')(hx:Blk w x cs 87)(O:OB w D v l):OB w' D v l :=
 ⟨O.oct,O.ex.imp id (by
  rintro⟨b,c,e,hd,a⟩;refine⟨b,c,e,hd,a.chg hc (fun d=>?_)⟩
  have e2:b=x:=d;subst e2;obtain⟨f,k⟩:=a.kind
  exact absurd (hx.eq k).2 (by decide))⟩
def Rst(w:World)(g:Nat)(k L:List Int)(there:Bool)(e:Ending)(w':World):Prop:=∃ s1 s2 s3 v1 v3,e=.returned (.func (.func (if there then 195 else 194)) #[] (if there then #[.pointer (some ⟨s1,0,none⟩),.pointer (some ⟨s2,0,none⟩),.pointer (some ⟨s3,0,none⟩)] else #[.pointer (some ⟨s1,0,none⟩),.pointer (some ⟨s2,0,none⟩)])) ∧
      w.heap.size≤s1∧w.heap.size≤s2∧w.heap.size≤s3∧Blk w' s1 [.pointer (some ⟨g,0,none⟩)] 37∧Blk w' s2 [v1] 87∧Blk w' s3 [v3] 87∧OB w' (w.heap.size≤·) v1 k∧OB w' (w.heap.size≤·) v3 L∧Below w.heap.size w w'
theorem qS{g m:Nat}{jv kv:Value}{n:Int}{k L:List Int}{there:Bool}(P:Blk w g [.pointer (some ⟨m,0,none⟩),jv,.int .i64 n] 85)(V:By w kv k)(U:k.length<=1000000000)(u:∀ w' kv',Below w.heap.size w w'->By w' kv' k->Calls Tryz.prog 165 #[.pointer (some ⟨m,0,none⟩),kv'] w' fun e w''=>∃ v,e=.returned (.tuple #[v,.bool there])/\OB w'' (w'.heap.size <= ·) v L/\Below w'.heap.size w' w'') :
  Calls Tryz.prog 146 #[.pointer (some ⟨g,0,none⟩),kv] w (Rst w g k L there):=by
 obtain⟨ao,c,rfl,-⟩:=id V.ex;have K:=aD w [.pointer (some ⟨g,0,none⟩)] 37;have al:=ae w (.cells #[.pointer (some ⟨g,0,none⟩)] 37)
 have Y:(w.alloc (.cells #[.pointer (some ⟨g,0,none⟩)] 37)).heap.size=w.heap.size+1:=by simp
 have t1:=cO (V.keep al) U;have J:=aC P;have I:=aC u;have W:=P.lt;clear u P;generalize hln:k.length=t at *
 cases there
 ·go_enter Tryz.func146,Tryz.ntmps146;go_wp2_with (go_at_call 69;refine t1.mono ?_;rintro e s ⟨v1,rfl,o,E⟩;obtain⟨a1,c1,rfl⟩:∃ a1 c1,v1=.slice a1 k.length c1:=(by obtain⟨a1,c1,e,_⟩:=o.by.ex;exact⟨a1,c1,e⟩));rw[hln] at o;have T:=E.size;have x:=ae s (.cells #[.slice a1 t c1] 87)
  have hS:Rds g m w.heap.size s.heap.size jv n (.slice a1 t c1) (s.alloc (.cells #[.slice a1 t c1] 87)).drew:=⟨((K.keep E).keep x).drew,(((J.out.keep al).keep E).keep x).drew,(aD s [.slice a1 t c1] 87).drew⟩
  have F:Below w.heap.size w (s.alloc (.cells #[.slice a1 t c1] 87)).drew:=aA (aA (aA al E) x) ⟨rfl,rfl,rfl,Nat.le_refl _,fun _ _=>rfl⟩
  have N:s.heap.size < (s.alloc (.cells #[.slice a1 t c1] 87)).drew.heap.size:=by show _ < (s.alloc _).heap.size;simp
  replace o:=((o.mono (D':=(w.heap.size <= ·)) (fun b _ h=>by omega)).keep x).keep (w':=(s.alloc (.cells #[.slice a1 t c1] 87)).drew) ⟨rfl,rfl,rfl,Nat.le_refl _,fun _ _=>rfl⟩;clear t1 x K al;clear E;refine bR (S:=Rds g m w.heap.size s.heap.size jv n (.slice a1 t c1)) (by kernel_rfl) hS ?_
  generalize (s.alloc (.cells #[.slice a1 t c1] 87)).drew=X at *;refine aQ 0 (some 11) (.pointer (some ⟨g,0,none⟩)) 37 2 w.heap.size 0 (by kernel_rfl) (by kernel_rfl) (by kernel_rfl) (fun w' h=>E7 (h.1.cell (i:=0) rfl)) (fun _ _ _ h=>h) hS ?_
  refine ay 1 (some 12) (.pointer (some ⟨g,0,none⟩)) (by kernel_rfl) (fun _ _=>by kernel_rfl) (fun _ _ _ h=>h) hS ?_
  refine ay 2 (some 13) (.pointer (some ⟨g,0,none⟩)) (by kernel_rfl) (fun _ _=>by kernel_rfl) (fun _ _ _ h=>h) hS ?_
  refine aQ 3 (some 14) (.pointer (some ⟨m,0,none⟩)) 77 13 g 0 (by kernel_rfl) (by kernel_rfl) (by kernel_rfl) (fun w' h=>Bh (h.2.1.cell (i:=0) rfl)) (fun _ _ _ h=>h) hS ?_
  refine aQ 4 (some 15) (.slice a1 t c1) 87 5 s.heap.size 0 (by kernel_rfl) (by kernel_rfl) (by kernel_rfl) (fun w' h=>E5 (h.2.2.cell (i:=0) rfl)) (fun _ _ _ h=>h) hS ?_
  have D:=ae X (.cells #[.slice none 0 0] 87);refine aM [5,9] (by kernel_rfl) (by simp) (vK 5 (some 16) 165 #[.pointer (some ⟨m,0,none⟩),.slice a1 t c1] (by kernel_rfl) (by kernel_rfl) (I.out _ _ F o.by) ?_ (bG 9 (some 6) (.pointer (some ⟨X.heap.size,0,none⟩)) (X.alloc (.cells #[.slice none 0 0] 87)) (by kernel_rfl) (by kernel_rfl) (hS.keep D) ?_ aZ))
  ·rintro Q y ⟨v3,rfl,z,A⟩;obtain⟨a3,c3,rfl⟩:∃ a3 c3,v3=.slice a3 L.length c3:=(by obtain⟨a3,c3,e,_⟩:=z.by.ex;exact⟨a3,c3,e⟩)
   refine⟨_,rfl,hS.keep A,?_⟩;replace hS:=hS.keep A;replace o:=o.keep A;generalize L.length=q at *;refine ay 6 (some 10) (.tuple #[.slice a3 q c3,.bool false]) (by kernel_rfl) (fun _ _=>by kernel_rfl) (fun _ _ _ h=>h) hS ?_
   refine ay 7 (some 17) (.slice a3 q c3) (by kernel_rfl) (fun _ _=>by kernel_rfl) (fun _ _ _ h=>h) hS ?_
   refine ay 8 (some 18) (.bool false) (by kernel_rfl) (fun _ _=>by kernel_rfl) (fun _ _ _ h=>h) hS ?_
   have C:=aA F A;have M:=A.size;refine aM [9] (by kernel_rfl) (by simp) (bG 9 (some 6) (.pointer (some ⟨y.heap.size,0,none⟩)) (y.alloc (.cells #[.slice none 0 0] 87)) (by kernel_rfl) (by kernel_rfl) (hS.keep (ae y _)) ?_ aZ);have H:=ae y (.cells #[.slice none 0 0] 87);replace hS:=hS.keep H;replace o:=o.keep H;replace z:=(z.mono (D':=(w.heap.size <= ·)) (fun b _ h=>by have R:X.heap.size<=b:=h;omega)).keep H;have r:=aD y [.slice none 0 0] 87;replace C:=aA C H;have j:=r.cell (i:=0) rfl;have f:=r.free 0
   have p:Chg (·=y.heap.size) (y.alloc (.cells #[.slice none 0 0] 87)) ((y.alloc (.cells #[.slice none 0 0] 87)).setCell ⟨y.heap.size,0,none⟩ (.slice a3 q c3)):=(Chg.refl (·=y.heap.size) (y.alloc (.cells #[.slice none 0 0] 87))).cell (.inl rfl) _
   have l:Rds g m w.heap.size s.heap.size jv n (.slice a1 t c1) ((y.alloc (.cells #[.slice none 0 0] 87)).setCell ⟨y.heap.size,0,none⟩ (.slice a3 q c3)):=⟨hS.1.chg p (by omega),hS.2.1.chg p (by omega),hS.2.2.chg p (by omega)⟩
   refine aM [10] (by kernel_rfl) (by simp) (dw 10 ((y.alloc (.cells #[.slice none 0 0] 87)).setCell ⟨y.heap.size,0,none⟩ (.slice a3 q c3)) (by kernel_rfl) (lX 6 17 (by kernel_rfl) (by kernel_rfl) (by kernel_rfl) j f) l ?_ aZ);refine ay 11 (some 7) (.bool false) (by kernel_rfl) (fun _ _=>by kernel_rfl) (fun _ _ _ h=>h) l ?_
   refine bM (by kernel_rfl) ?_
   simp only[Act.put,List.setIfInBounds_toArray,List.set_cons_zero,List.set_cons_succ];have d:=aC (And.intro (r.setCell (i:=0) (.slice a3 q c3)) (And.intro (iE p r z) (And.intro (iE p r o) (And.intro l (C.trans (p.below (B:=w.heap.size) (fun b e=>by omega) C.size))))));have g3:=aC (show w.heap.size<=y.heap.size by omega);clear j f p r z hS D o C l I F J;generalize (y.alloc (.cells #[.slice none 0 0] 87)).setCell ⟨y.heap.size,0,none⟩ (.slice a3 q c3)=Z at *;go_wp2;go_ret;exact⟨_,_,_,_,_,rfl,Nat.le_refl _,by omega,g3.out,d.out.2.2.2.1.1,d.out.2.2.2.1.2.2,d.out.1,d.out.2.2.1,d.out.2.1,d.out.2.2.2.2⟩
  ·replace hS:=hS.keep D;replace o:=o.keep D;have G:=aA F D;have r:=aD X [.slice none 0 0] 87
   have O:X.heap.size < (X.alloc (.cells #[.slice none 0 0] 87)).heap.size:=by simp
   refine bQ 5 (some 16) 165 #[.pointer (some ⟨m,0,none⟩),.slice a1 t c1] (by kernel_rfl) (by kernel_rfl) (I.out _ _ G o.by) ?_
   rintro Q y ⟨v3,rfl,z,A⟩;obtain⟨a3,c3,rfl⟩:∃ a3 c3,v3=.slice a3 L.length c3:=(by obtain⟨a3,c3,e,_⟩:=z.by.ex;exact⟨a3,c3,e⟩)
   refine⟨_,rfl,hS.keep A,?_⟩;replace hS:=hS.keep A;replace o:=o.keep A;generalize L.length=q at *;refine ay 6 (some 10) (.tuple #[.slice a3 q c3,.bool false]) (by kernel_rfl) (fun _ _=>by kernel_rfl) (fun _ _ _ h=>h) hS ?_
   refine ay 7 (some 17) (.slice a3 q c3) (by kernel_rfl) (fun _ _=>by kernel_rfl) (fun _ _ _ h=>h) hS ?_
   refine ay 8 (some 18) (.bool false) (by kernel_rfl) (fun _ _=>by kernel_rfl) (fun _ _ _ h=>h) hS ?_
   have C:=aA G A;replace r:=r.keep A;replace z:=z.mono (D':=(w.heap.size <= ·)) (fun b _ h=>by have R:(X.alloc (.cells #[.slice none 0 0] 87)).heap.size<=b:=h;omega);have j:=r.cell (i:=0) rfl;have f:=r.free 0
   have p:Chg (·=X.heap.size) (y) ((y).setCell ⟨X.heap.size,0,none⟩ (.slice a3 q c3)):=(Chg.refl (·=X.heap.size) (y)).cell (.inl rfl) _
   have l:Rds g m w.heap.size s.heap.size jv n (.slice a1 t c1) ((y).setCell ⟨X.heap.size,0,none⟩ (.slice a3 q c3)):=⟨hS.1.chg p (by omega),hS.2.1.chg p (by omega),hS.2.2.chg p (by omega)⟩
   refine aM [10] (by kernel_rfl) (by simp) (dw 10 ((y).setCell ⟨X.heap.size,0,none⟩ (.slice a3 q c3)) (by kernel_rfl) (lX 6 17 (by kernel_rfl) (by kernel_rfl) (by kernel_rfl) j f) l ?_ aZ);refine ay 11 (some 7) (.bool false) (by kernel_rfl) (fun _ _=>by kernel_rfl) (fun _ _ _ h=>h) l ?_
   refine bM (by kernel_rfl) ?_
   simp only[Act.put,List.setIfInBounds_toArray,List.set_cons_zero,List.set_cons_succ];have d:=aC (And.intro (r.setCell (i:=0) (.slice a3 q c3)) (And.intro (iE p r z) (And.intro (iE p r o) (And.intro l (C.trans (p.below (B:=w.heap.size) (fun b e=>by omega) C.size))))));have g3:=aC (show w.heap.size<=X.heap.size by omega);clear j f p r z hS D o C l I F J;generalize (y).setCell ⟨X.heap.size,0,none⟩ (.slice a3 q c3)=Z at *;go_wp2;go_ret;exact⟨_,_,_,_,_,rfl,Nat.le_refl _,by omega,g3.out,d.out.2.2.2.1.1,d.out.2.2.2.1.2.2,d.out.1,d.out.2.2.1,d.out.2.1,d.out.2.2.2.2⟩
 ·go_enter Tryz.func146,Tryz.ntmps146;go_wp2_with (go_at_call 69;refine t1.mono ?_;rintro e s ⟨v1,rfl,o,E⟩;obtain⟨a1,c1,rfl⟩:∃ a1 c1,v1=.slice a1 k.length c1:=(by obtain⟨a1,c1,e,_⟩:=o.by.ex;exact⟨a1,c1,e⟩));rw[hln] at o;have T:=E.size;have x:=ae s (.cells #[.slice a1 t c1] 87)
  have hS:Rds g m w.heap.size s.heap.size jv n (.slice a1 t c1) (s.alloc (.cells #[.slice a1 t c1] 87)).drew:=⟨((K.keep E).keep x).drew,(((J.out.keep al).keep E).keep x).drew,(aD s [.slice a1 t c1] 87).drew⟩
  have F:Below w.heap.size w (s.alloc (.cells #[.slice a1 t c1] 87)).drew:=aA (aA (aA al E) x) ⟨rfl,rfl,rfl,Nat.le_refl _,fun _ _=>rfl⟩
  have N:s.heap.size < (s.alloc (.cells #[.slice a1 t c1] 87)).drew.heap.size:=by show _ < (s.alloc _).heap.size;simp
  replace o:=((o.mono (D':=(w.heap.size <= ·)) (fun b _ h=>by omega)).keep x).keep (w':=(s.alloc (.cells #[.slice a1 t c1] 87)).drew) ⟨rfl,rfl,rfl,Nat.le_refl _,fun _ _=>rfl⟩;clear t1 x K al;clear E;refine bR (S:=Rds g m w.heap.size s.heap.size jv n (.slice a1 t c1)) (by kernel_rfl) hS ?_
  generalize (s.alloc (.cells #[.slice a1 t c1] 87)).drew=X at *;refine aQ 0 (some 11) (.pointer (some ⟨g,0,none⟩)) 37 2 w.heap.size 0 (by kernel_rfl) (by kernel_rfl) (by kernel_rfl) (fun w' h=>E7 (h.1.cell (i:=0) rfl)) (fun _ _ _ h=>h) hS ?_
  refine ay 1 (some 12) (.pointer (some ⟨g,0,none⟩)) (by kernel_rfl) (fun _ _=>by kernel_rfl) (fun _ _ _ h=>h) hS ?_
  refine ay 2 (some 13) (.pointer (some ⟨g,0,none⟩)) (by kernel_rfl) (fun _ _=>by kernel_rfl) (fun _ _ _ h=>h) hS ?_
  refine aQ 3 (some 14) (.pointer (some ⟨m,0,none⟩)) 77 13 g 0 (by kernel_rfl) (by kernel_rfl) (by kernel_rfl) (fun w' h=>Bh (h.2.1.cell (i:=0) rfl)) (fun _ _ _ h=>h) hS ?_
  refine aQ 4 (some 15) (.slice a1 t c1) 87 5 s.heap.size 0 (by kernel_rfl) (by kernel_rfl) (by kernel_rfl) (fun w' h=>E5 (h.2.2.cell (i:=0) rfl)) (fun _ _ _ h=>h) hS ?_
  have D:=ae X (.cells #[.slice none 0 0] 87);refine aM [5,9] (by kernel_rfl) (by simp) (vK 5 (some 16) 165 #[.pointer (some ⟨m,0,none⟩),.slice a1 t c1] (by kernel_rfl) (by kernel_rfl) (I.out _ _ F o.by) ?_ (bG 9 (some 6) (.pointer (some ⟨X.heap.size,0,none⟩)) (X.alloc (.cells #[.slice none 0 0] 87)) (by kernel_rfl) (by kernel_rfl) (hS.keep D) ?_ aZ))
  ·rintro Q y ⟨v3,rfl,z,A⟩;obtain⟨a3,c3,rfl⟩:∃ a3 c3,v3=.slice a3 L.length c3:=(by obtain⟨a3,c3,e,_⟩:=z.by.ex;exact⟨a3,c3,e⟩)
   refine⟨_,rfl,hS.keep A,?_⟩;replace hS:=hS.keep A;replace o:=o.keep A;generalize L.length=q at *;refine ay 6 (some 10) (.tuple #[.slice a3 q c3,.bool true]) (by kernel_rfl) (fun _ _=>by kernel_rfl) (fun _ _ _ h=>h) hS ?_
   refine ay 7 (some 17) (.slice a3 q c3) (by kernel_rfl) (fun _ _=>by kernel_rfl) (fun _ _ _ h=>h) hS ?_
   refine ay 8 (some 18) (.bool true) (by kernel_rfl) (fun _ _=>by kernel_rfl) (fun _ _ _ h=>h) hS ?_
   have C:=aA F A;have M:=A.size;refine aM [9] (by kernel_rfl) (by simp) (bG 9 (some 6) (.pointer (some ⟨y.heap.size,0,none⟩)) (y.alloc (.cells #[.slice none 0 0] 87)) (by kernel_rfl) (by kernel_rfl) (hS.keep (ae y _)) ?_ aZ);have H:=ae y (.cells #[.slice none 0 0] 87);replace hS:=hS.keep H;replace o:=o.keep H;replace z:=(z.mono (D':=(w.heap.size <= ·)) (fun b _ h=>by have R:X.heap.size<=b:=h;omega)).keep H;have r:=aD y [.slice none 0 0] 87;replace C:=aA C H;have j:=r.cell (i:=0) rfl;have f:=r.free 0
   have p:Chg (·=y.heap.size) (y.alloc (.cells #[.slice none 0 0] 87)) ((y.alloc (.cells #[.slice none 0 0] 87)).setCell ⟨y.heap.size,0,none⟩ (.slice a3 q c3)):=(Chg.refl (·=y.heap.size) (y.alloc (.cells #[.slice none 0 0] 87))).cell (.inl rfl) _
   have l:Rds g m w.heap.size s.heap.size jv n (.slice a1 t c1) ((y.alloc (.cells #[.slice none 0 0] 87)).setCell ⟨y.heap.size,0,none⟩ (.slice a3 q c3)):=⟨hS.1.chg p (by omega),hS.2.1.chg p (by omega),hS.2.2.chg p (by omega)⟩
   refine aM [10] (by kernel_rfl) (by simp) (dw 10 ((y.alloc (.cells #[.slice none 0 0] 87)).setCell ⟨y.heap.size,0,none⟩ (.slice a3 q c3)) (by kernel_rfl) (lX 6 17 (by kernel_rfl) (by kernel_rfl) (by kernel_rfl) j f) l ?_ aZ);refine ay 11 (some 7) (.bool true) (by kernel_rfl) (fun _ _=>by kernel_rfl) (fun _ _ _ h=>h) l ?_
   refine bM (by kernel_rfl) ?_
   simp only[Act.put,List.setIfInBounds_toArray,List.set_cons_zero,List.set_cons_succ];have d:=aC (And.intro (r.setCell (i:=0) (.slice a3 q c3)) (And.intro (iE p r z) (And.intro (iE p r o) (And.intro l (C.trans (p.below (B:=w.heap.size) (fun b e=>by omega) C.size))))));have g3:=aC (show w.heap.size<=y.heap.size by omega);clear j f p r z hS D o C l I F J;generalize (y.alloc (.cells #[.slice none 0 0] 87)).setCell ⟨y.heap.size,0,none⟩ (.slice a3 q c3)=Z at *;go_wp2;go_ret;exact⟨_,_,_,_,_,rfl,Nat.le_refl _,by omega,g3.out,d.out.2.2.2.1.1,d.out.2.2.2.1.2.2,d.out.1,d.out.2.2.1,d.out.2.1,d.out.2.2.2.2⟩
  ·replace hS:=hS.keep D;replace o:=o.keep D;have G:=aA F D;have r:=aD X [.slice none 0 0] 87
   have O:X.heap.size < (X.alloc (.cells #[.slice none 0 0] 87)).heap.size:=by simp
   refine bQ 5 (some 16) 165 #[.pointer (some ⟨m,0,none⟩),.slice a1 t c1] (by kernel_rfl) (by kernel_rfl) (I.out _ _ G o.by) ?_
   rintro Q y ⟨v3,rfl,z,A⟩;obtain⟨a3,c3,rfl⟩:∃ a3 c3,v3=.slice a3 L.length c3:=(by obtain⟨a3,c3,e,_⟩:=z.by.ex;exact⟨a3,c3,e⟩)
   refine⟨_,rfl,hS.keep A,?_⟩;replace hS:=hS.keep A;replace o:=o.keep A;generalize L.length=q at *;refine ay 6 (some 10) (.tuple #[.slice a3 q c3,.bool true]) (by kernel_rfl) (fun _ _=>by kernel_rfl) (fun _ _ _ h=>h) hS ?_
   refine ay 7 (some 17) (.slice a3 q c3) (by kernel_rfl) (fun _ _=>by kernel_rfl) (fun _ _ _ h=>h) hS ?_
   refine ay 8 (some 18) (.bool true) (by kernel_rfl) (fun _ _=>by kernel_rfl) (fun _ _ _ h=>h) hS ?_
   have C:=aA G A;replace r:=r.keep A;replace z:=z.mono (D':=(w.heap.size <= ·)) (fun b _ h=>by have R:(X.alloc (.cells #[.slice none 0 0] 87)).heap.size<=b:=h;omega);have j:=r.cell (i:=0) rfl;have f:=r.free 0
   have p:Chg (·=X.heap.size) (y) ((y).setCell ⟨X.heap.size,0,none⟩ (.slice a3 q c3)):=(Chg.refl (·=X.heap.size) (y)).cell (.inl rfl) _
   have l:Rds g m w.heap.size s.heap.size jv n (.slice a1 t c1) ((y).setCell ⟨X.heap.size,0,none⟩ (.slice a3 q c3)):=⟨hS.1.chg p (by omega),hS.2.1.chg p (by omega),hS.2.2.chg p (by omega)⟩
   refine aM [10] (by kernel_rfl) (by simp) (dw 10 ((y).setCell ⟨X.heap.size,0,none⟩ (.slice a3 q c3)) (by kernel_rfl) (lX 6 17 (by kernel_rfl) (by kernel_rfl) (by kernel_rfl) j f) l ?_ aZ);refine ay 11 (some 7) (.bool true) (by kernel_rfl) (fun _ _=>by kernel_rfl) (fun _ _ _ h=>h) l ?_
   refine bM (by kernel_rfl) ?_
   simp only[Act.put,List.setIfInBounds_toArray,List.set_cons_zero,List.set_cons_succ];have d:=aC (And.intro (r.setCell (i:=0) (.slice a3 q c3)) (And.intro (iE p r z) (And.intro (iE p r o) (And.intro l (C.trans (p.below (B:=w.heap.size) (fun b e=>by omega) C.size))))));have g3:=aC (show w.heap.size<=X.heap.size by omega);clear j f p r z hS D o C l I F J;generalize (y).setCell ⟨X.heap.size,0,none⟩ (.slice a3 q c3)=Z at *;go_wp2;go_ret;exact⟨_,_,_,_,_,rfl,Nat.le_refl _,by omega,g3.out,d.out.2.2.2.1.1,d.out.2.2.2.1.2.2,d.out.1,d.out.2.2.1,d.out.2.1,d.out.2.2.2.2⟩
end
end Kv
end
section
namespace Kv
open Go.RowKit Go.Lib Pg
section
variable {w:World} {b n c i:Nat} {xs:List Value}
end
end Kv
end
section
namespace Kv
open Go.RowKit Go.Lib Pg
attribute [local go_sem] Oper.semAt_some
section
variable {w:World}{V D:Nat->Prop}{g:Nat}{j:Jr}{cs':List Value}{bv jv:Value}{l:List Nat}{o:Option Nat}{Q:List (List KV)}{T0:List Jr}
theorem sV(ao:Option Addr)(n c:Nat)(hn:n<=c)(bo:Option Addr)(c':Nat):(Builtin.append_ #[271,271] 271 #[.slice ao n c,.slice bo 0 c']).run Tryz.prog w=.ok (.slice ao n c) w:=by
 obtain⟨i,hi,d,hs,hb⟩:=info_parts KF.inf;have:(Builtin.firstCells i.size 0 (.slice bo 0 c')).run Tryz.prog w=.ok #[] w:=by
  cases bo with
  | none=>rfl
  | some a=>exact run_firstCells_some w i.size 0 a 0 c' [] (by simp) (fun j v b=>by simp at b)
 cases ao with
 | none=>simp[Builtin.append_,run_underlying KF.und,sizeOf,typeInfo,hi,Builtin.lenOf,this,hn]
 | some a=>simp[Builtin.append_,run_underlying KF.und,sizeOf,typeInfo,hi,Builtin.lenOf,this,hn,storeCells]
def Lies(w:World)(bv:Value)(cs:List Value):Prop:=(bv=.slice none 0 0/\cs=[])\/∃ a c,bv=.slice (some a) cs.length c/\∀ i x,cs[i]?=some x->w.cell? (a.add i)=some x
theorem A8{u:List Und}(I:JrA w V D g j)(hC:iY w V D g u cs')(hb:Lies w bv cs')(hlen:j.U.length+u.length<=1000000000) :
  ∃ v' o' w',(Builtin.append_ #[271,271] 271 #[j.v,bv]).run Tryz.prog w=.ok v' w'/\(∃ ao n c,v'=.slice ao n c)/\JrA w' V D g ⟨j.U ++ u,v',o'⟩/\(∀ b,o'=some b->j.o=some b\/b=w.heap.size)/\Chg (fun b=>j.o=some b) w w':=by
 obtain⟨cs,hc,E⟩:=I;have d:=hC.1;by_cases z:u=[]
 ·subst z
  have m:cs'=[]:=List.eq_nil_of_length_eq_zero (by rw[d];rfl);subst m;obtain⟨t,l,rfl⟩:∃ t l,bv=.slice t 0 l:=by
   rcases hb with⟨e,_⟩ | ⟨a,c,e,_⟩
   ·exact⟨none,0,e⟩
   ·exact⟨some a,c,e⟩
  rcases E with⟨e1,e2,e3⟩ | ⟨b,c,e1,e2,hR⟩
  ·refine⟨_,j.o,w,by rw[e2];exact sV none 0 0 (Nat.le_refl _) t l,⟨none,0,0,rfl⟩,⟨cs,by simpa using hc,.inl ⟨e1,rfl,by simpa using e3⟩⟩,fun b h=>.inl h,Chg.refl _ _⟩
  ·refine⟨_,j.o,w,by rw[e2];exact sV _ _ _ hR.le.1 t l,⟨_,_,_,rfl⟩,⟨cs,by simpa using hc,.inr ⟨b,c,e1,by simp,by simpa using hR⟩⟩,fun b h=>.inl h,Chg.refl _ _⟩
 ·obtain⟨a,ca,rfl,f⟩:∃ a c,bv=.slice (some a) cs'.length c/\∀ i x,cs'[i]?=some x->w.cell? (a.add i)=some x:=by
   rcases hb with⟨_,e⟩ | h
   ·rw[e] at d;exact absurd (List.eq_nil_of_length_eq_zero d.symm) z
   ·exact h
  have q:0 < cs'.length:=by rw[d];exact List.length_pos_iff.2 z
  rcases E with⟨e1,e2,e3⟩ | ⟨b,c,e1,e2,hR⟩
  ·have m:cs=[]:=List.eq_nil_of_length_eq_zero (by rw[hc.1,e3];rfl);subst m;obtain⟨l,W,y,p,C⟩:=gQ (w:=w) KF 271 a cs'.length ca cs' (by simp) f q (by omega) (by omega);refine⟨_,some w.heap.size,W,by rw[e2];exact y,⟨_,_,_,rfl⟩,⟨cs',?_,.inr ⟨_,l,rfl,by rw[e3,d];rfl,by rw[e3];simpa[d] using p⟩⟩,fun b h=>.inr (by cases h;rfl),Chg.of C⟩;rw[e3];exact hC.stay ⟨fun b _ _ _ k _=>C.block b k.lt,fun b H _ _=>C.block b H⟩
  ·obtain⟨F,l,W,y,A,p,r⟩:=eu KF 271 hR a cs'.length ca cs' (by simp) f hC.one (by omega) (by omega);obtain⟨G,B⟩:=hR.kind
   have s:lR V D w W:=l9 B (by decide) (by decide) (by decide) r;refine⟨_,some F,W,by rw[e2];exact y,⟨_,_,_,rfl⟩,⟨cs ++ cs',(hc.stay s).app (hC.stay s),.inr ⟨F,l,rfl,by simp[d],by simpa[d] using p⟩⟩,fun x h=>?_,r.mono (fun x _ e=>by have J:x=b:=e;rw[J,e1])⟩
   cases h;rcases A with e | e
   ·exact .inl (by rw[e1,e])
   ·exact .inr e
theorem sF(T0:List Jr)(j:Jr):tot (T0 ++ [j])=tot T0+j.U.length:=by simp[tot]
theorem mr:(l ++ o.toList).Nodup ↔ l.Nodup∧∀ b,o=some b→b ∉ l:=by
  cases o with
  | none=>simp
  | some x => simp[List.nodup_append]; intro _; constructor
              · intro h hx;exact h x hx rfl
              · intro h a c e;subst e;exact h c
theorem vH(T0:List Jr)(j:Jr):(T0 ++ [j]).filterMap Jr.o=T0.filterMap Jr.o ++ j.o.toList:=by
 rw[List.filterMap_append];congr 1
theorem SX.inner{u:World}{K F:Nat->Prop}{m r:Nat}{j':Jr}{n N N':Nat}(h:SX w K D F V g m Q jv (T0 ++ [j]) (some r) n N)(G:JrA u V D g j')(E:∀ b,j'.o=some b->j.o=some b\/w.heap.size<=b)(I:N<=N')(a:Kv.tot (T0 ++ [j'])+Q.flatten.length<=N')(s:∃ c,jv=.slice (some ⟨r,0,none⟩) (T0 ++ [j]).length c/\Rw u 274 1 r (T0 ++ [j]).length c ((T0 ++ [j']).map Jr.v))(hc:Chg (fun b=>j.o=some b\/b=r) w u) :
  SX u (fun b=>(K b/\¬ j.o=some b)\/j'.o=some b) D F V g m Q jv (T0 ++ [j']) (some r) n N':=by
 have f:j∈T0 ++ [j]:=by simp
 have hx:∀ b cs t,Blk w b cs t->t≠1->t≠274->u.heap[b]? = w.heap[b]? := fun b cs t k q A=>hc.same b k.lt (fun e=>by
  rcases e with e | e
  ·obtain⟨l,p⟩:=(h.jn.each j f).kind e;exact q (k.eq p).2
  ·subst e;obtain⟨l,p⟩:=h.jn.kind rfl
   exact A (k.eq p).2)
 have C:∀ b,(j.o=some b\/b=r)->¬ F b:=fun b e=>e.elim (h.own.ox j f b) (fun e=>by subst e;exact h.own.rX _ rfl)
 have y:lR V D w u:=⟨fun b cs t _ k a=>hx b cs t k (by rcases a with e | e<;>subst e<;>decide) (by rcases a with e | e<;>subst e<;>decide),fun b _ _ k=>by obtain⟨cs,k⟩:=k;exact hx b cs _ k (by decide) (by decide)⟩
 have x:∀ t∈T0 ++ [j],∀ b,t.o=some b->b < w.heap.size:=fun t a b e=>by obtain⟨cs,k⟩:=(h.jn.each t a).kind e;exact k.lt
 have i:=h.jn.apart;rw[vH,mr] at i;refine⟨⟨by rw[hx g _ _ h.blk (by decide) (by decide)];exact h.blk.blk⟩,h.map.same (fun b hF=>hc.same b (h.map.lt hF) (fun e=>C b e hF)) (fun b _ _ k=>by obtain⟨cs,k⟩:=k;exact hx b cs _ k (by decide) (by decide)) |>.more I,⟨?_,?_,?_⟩,a,by have:=h.len;simp at this ⊢;omega,?_⟩
 ·obtain⟨c,e,z⟩:=s;exact .inr ⟨r,c,rfl,by rw[e];simp,by simpa using z⟩
 ·intro t a;rcases List.mem_append.1 a with d | d
  ·refine(h.jn.each t (List.mem_append_left _ d)).stay y (fun b e => ?_);refine hc.same b (x t (List.mem_append_left _ d) b e) (fun e2 => ?_);rcases e2 with e2 | e2
   ·exact i.2 b e2 (List.mem_filterMap.2 ⟨t,d,e⟩)
   ·subst e2;obtain⟨cs,k⟩:=(h.jn.each t (List.mem_append_left _ d)).kind e;obtain⟨l,p⟩:=h.jn.kind rfl;exact absurd (k.eq p).2 (by decide)
  ·simp at d;subst d;exact G
 ·rw[vH,mr];refine⟨i.1,fun b e hm => ?_⟩;rcases E b e with q | q
  ·exact i.2 b q hm
  ·obtain⟨t,A,H⟩:=List.mem_filterMap.1 hm;have:=x t (List.mem_append_left _ A) b H;omega
 ·have B:∀ b cs t,Blk w b cs t->t≠1->¬ j.o=some b:=fun b cs t k q e=>by
   obtain⟨l,p⟩:=(h.jn.each j f).kind e;exact q (k.eq p).2
  refine⟨.inl ⟨h.own.top,B g _ _ h.blk (by decide)⟩,fun b hb=>.inl ⟨h.own.map b hb,fun e=>h.own.ox j f b e hb⟩,fun b hb => ?_,fun b hb => ?_,fun t a b e => ?_,fun b hb => ?_,h.own.p5,h.own.uE,h.own.rX,fun t a b e => ?_,fun b hv=>by
   obtain⟨cs,t,k,a⟩:=h.own.vk b hv
   exact⟨cs,t,k.same (y.var b cs t hv k a),a⟩⟩
  ·obtain⟨cs,t,k,a⟩:=h.own.vk b hb;exact .inl ⟨h.own.var b hb,B b cs t k (by rcases a with e | e<;>subst e<;>decide)⟩
  ·cases hb;obtain⟨l,p⟩:=h.jn.kind rfl;exact .inl ⟨h.own.jrn _ rfl,B _ _ _ p (by decide)⟩
  ·rcases List.mem_append.1 a with d | d
   ·exact .inl ⟨h.own.bck t (List.mem_append_left _ d) b e,fun e2=>i.2 b e2 (List.mem_filterMap.2 ⟨t,d,e⟩)⟩
   ·simp at d;subst d;exact .inr e
  ·rcases hb with⟨hb,hn⟩ | hb
   ·by_cases e:b=r
    ·subst e;obtain⟨c,_,z⟩:=s;obtain⟨cs,k⟩:=z.kind;exact⟨cs,_,k,by decide⟩
    ·obtain⟨cs,t,k,a⟩:=h.own.kind b hb;exact⟨cs,t,k.chg hc (fun e2=>e2.elim hn e),a⟩
   ·obtain⟨cs,k⟩:=G.kind hb;exact⟨cs,_,k,by decide⟩
  ·rcases List.mem_append.1 a with d | d
   ·exact h.own.ox t (List.mem_append_left _ d) b e
   ·simp at d; subst d;rcases E b e with q | q
    ·exact h.own.ox j f b q
    ·intro hF;have:=h.map.lt hF;omega
end
end Kv
end
section
namespace Kv
open Go.RowKit Go.Lib Pg
attribute [local go_sem] Oper.semAt_some
section
variable {w:World}{V D:Nat->Prop}{g:Nat}{jv bv:Value}{T0:List Jr}{j:Jr}{oj:Option Nat}{Q:List (List KV)}{cs':List Value}
theorem xC(T0:List Jr)(j j':Jr):((T0 ++ [j]).map Jr.v).set T0.length j'.v=(T0 ++ [j']).map Jr.v:=by
 rw[List.map_append,List.map_append,List.set_append_right _ _ (by simp)];simp
theorem JnA.last(h:JnA w V D g jv (T0 ++ [j]) oj):∃ jb c,oj=some jb/\jv=.slice (some ⟨jb,0,none⟩) (T0.length+1) c/\Rw w 274 1 jb (T0.length+1) c ((T0 ++ [j]).map Jr.v):=by
 rcases h.row with⟨_,_,e⟩ | ⟨b,c,e1,e2,hR⟩
 ·exact absurd e (by simp)
 ·exact⟨b,c,e1,by rw[e2];simp,by simpa using hR⟩
theorem xnote{K F:Nat->Prop}{m:Nat}{n N:Nat}{t:List Und}(h:SX w K D F V g m Q jv (T0 ++ [j]) oj n N)(hC:iY w V D g t cs')(hb:Lies w bv cs'){N':Nat}(W:N<=N')(C:Kv.tot (T0 ++ [j])+t.length+Q.flatten.length<=N')(hN3:N'<=1000000000) :
  Calls Tryz.prog 145 #[.pointer (some ⟨g,0,none⟩),bv] w fun e w'=>e=.returned (.tuple #[])/\∃ K' j',j'.U=j.U ++ t/\SX w' K' D F V g m Q jv (T0 ++ [j']) oj n N'/\(∀ b,K' b->K b\/w.heap.size<=b)/\Chg K w w':=by
 have hlen:j.U.length+t.length<=1000000000:=by rw[sF] at C;omega
 obtain⟨f,c,rfl,rfl,A⟩:=h.jn.last;obtain⟨v',J,B,hr,⟨u,s,r,rfl⟩,T,M,x⟩:=A8 (h.jn.each j (by simp)) hC hb hlen
 have p:j∈T0 ++ [j]:=by simp
 have ud:=oT h.blk;have c1:=h.blk.cell (i:=1) rfl;have z:=A.cell (i:=T0.length) (v:=j.v) (by simp)
 have E:¬ j.o=some f:=fun e=>by
  obtain⟨cs,k⟩:=(h.jn.each j p).kind e;obtain⟨cs',S⟩:=A.kind;exact absurd (k.eq S).2 (by decide)
 have d:=A.chg x E;have l:=d.cell (i:=T0.length) (v:=j.v) (by simp);have H:=d.free T0.length;have hle:=A.le
 have O:∃ a1 n1 c1,j.v=.slice a1 n1 c1:=by
  obtain⟨cs,_,⟨_,e,_⟩ | ⟨b,c,_,e,_⟩⟩:=h.jn.each j p
  ·exact⟨_,_,_,e⟩
  ·exact⟨_,_,_,e⟩
 obtain⟨a1,n1,c2,P⟩:=O;rw[P] at z l hr
 have I:∃ a2 Z c3,bv=.slice a2 Z c3:=by
  rcases hb with⟨e,_⟩ | ⟨a,c,e,_⟩
  ·exact⟨_,_,_,e⟩
  ·exact⟨_,_,_,e⟩
 obtain⟨a2,Z,c3,R⟩:=I;subst R
 have hg0:(0:Int) < (T0.length:Int)+1:=by omega
 have hg1:(T0.length:Int)<=16:=by have:=h.len;simp at this;omega
 have Y:Hid (∃ K' j',j'.U=j.U ++ t/\SX (B.setCell ⟨f,T0.length,none⟩ (.slice u s r)) K' D F V g m Q (.slice (some ⟨f,0,none⟩) (T0.length+1) c) (T0 ++ [j']) (some f) n N'/\(∀ b,K' b->K b\/w.heap.size<=b)/\Chg K w (B.setCell ⟨f,T0.length,none⟩ (.slice u s r))):=by
  have G:Chg (fun b=>j.o=some b\/b=f) w (B.setCell ⟨f,T0.length,none⟩ (.slice u s r)):=(x.mono (fun b _ e=>.inl e)).cell (.inl (.inr rfl)) _;obtain⟨cs,kj⟩:=d.kind
  have L:JrA (B.setCell ⟨f,T0.length,none⟩ (.slice u s r)) V D g ⟨j.U ++ t,.slice u s r,J⟩:=T.stay (l9 kj (by decide) (by decide) (by decide) ((Chg.refl (· = f) B).cell (.inl rfl) _)) (fun b e=>by
   have X:b≠f:=fun e2=>by
    subst e2;obtain⟨cs',S⟩:=T.kind e;exact absurd (S.eq kj).2 (by decide)
   exact Below.heap_setCell _ _ _ _ X)
  have hS:=h.inner (j':=⟨j.U ++ t,.slice u s r,J⟩) L (fun b e=>(M b e).imp id (fun e=>by omega)) (N':=N') W (by rw[sF] at C ⊢; simp only[List.length_append]; omega) ⟨c,by simp,by
   have:=d.set T0.length (by simp) (.slice u s r);rw[xC T0 j ⟨j.U ++ t,.slice u s r,J⟩] at this
   simpa using this⟩ G
  refine⟨_,_,rfl,hS,fun b hb=>?_,G.mono (fun b _ e=>?_)⟩
  ·rcases hb with hb | hb
   ·exact .inl hb.1
   ·rcases M b hb with e | e
    ·exact .inl (h.own.bck j p b e)
    ·exact .inr (by omega)
  ·rcases e with e | e
   ·exact h.own.bck j p b e
   ·subst e;exact h.own.jrn _ rfl
 clear h hC hb A d T M x E hlen;generalize T0.length=q at *;go_enter Tryz.func145,Tryz.ntmps145;go_wp2_with first
  | (go_at_call 144;go_must (refine ud.mono ?_);rintro e y ⟨rfl,hy⟩;replace hy:=hy.symm;subst hy)
  | (at_builtin;refine Lib.wpList_append_run _ rfl _ _ _ _ rfl _ _ rfl rfl _ _ hr ?_)
 go_end0;exact⟨rfl,Y.out⟩
end
end Kv
end
section
namespace Kv
open Go.RowKit Go.Lib Pg
attribute [local go_sem] Oper.semAt_some
section
variable {w:World}{K D F V:Nat->Prop}{g m n N:Nat}{Q:List (List KV)}{jv kv:Value}{T T0:List Jr}{oj:Option Nat}{k:List Int}
theorem xA(h:SX w K D F V g m Q jv T oj n N)(r:By w kv k)(a:k.length<=1000000000)(q:N<=100000000) :
  Calls Tryz.prog 146 #[.pointer (some ⟨g,0,none⟩),kv] w fun e w'=>∃ (c:Value) (S:Nat->Prop),e=.returned c/\(∃ f cap,c=.func (.func f) #[] cap)/\SX w' (fun b=>K b\/S b) (fun b=>D b\/w.heap.size<=b) F (fun b=>V b\/S b) g m Q jv T oj n N/\oA w' (fun b=>V b\/S b) (fun b=>D b\/w.heap.size<=b) g (k,look Q.flatten k) c/\(∀ b,S b->w.heap.size<=b)/\Below w.heap.size w w':=by
 refine(qS (there:=(look Q.flatten k).isSome) (L:=(look Q.flatten k).getD []) h.blk r a (fun w' o u s=>(jX (h.keep u) s q).mono fun e t h=>h)).mono ?_
 rintro e w' ⟨s1,s2,s3,v1,v3,rfl,g1,g2,g3,d,l,j,p,i,B⟩
 have hX:=(h.keep B).vars (S:=fun b=>b=s1\/b=s2\/b=s3) (fun b hb hF=>by have:=h.map.lt hF; rcases hb with rfl | rfl | rfl<;>omega) (fun b hb=>by
  rcases hb with rfl | rfl | rfl
  ·exact⟨_,_,d,.inl rfl⟩
  ·exact⟨_,_,l,.inr rfl⟩
  ·exact⟨_,_,j,.inr rfl⟩) (D':=fun b=>D b\/w.heap.size<=b) (fun _ _ h=>.inl h)
 refine⟨_,fun b=>b=s1\/b=s2\/b=s3,rfl,⟨_,_,rfl⟩,hX,⟨⟨a,fun x hx=>?_⟩,s1,s2,v1,.inr (.inl rfl),.inr (.inr (.inl rfl)),d,l,p.mono (fun _ _ h=>.inr h),?_⟩,(fun b hb=>by rcases hb with rfl | rfl | rfl<;>assumption),B⟩
 ·exact(h.map.small _ (gB hx)).2
 ·cases hl:look Q.flatten k with
  | none=>exact .inl ⟨rfl,by simp⟩
  | some x=>exact .inr ⟨s3,v3,x,.inr (.inr (.inr rfl)),j,by rw[hl] at i;exact i.mono (fun _ _ h=>.inr h),rfl,by simp⟩
theorem mM(h:SX w K D F V g m Q jv [] oj n N) :
  Calls Tryz.prog 96 #[.pointer (some ⟨g,0,none⟩),kv] w fun e w'=>e=.returned (.tuple #[])/\w'=w:=by
 have b:=Bd h;clear h;go_enter Tryz.func96,Tryz.ntmps96;go_wp2_with (go_at_call 144;go_must (refine b.mono ?_);rintro e y ⟨rfl,hy⟩;replace hy:=hy.symm;subst hy);go_end0;exact⟨rfl,rfl⟩
theorem oI{j:Jr}(h:SX w K D F V g m Q jv (T0 ++ [j]) oj n N)(p:By w kv k)(r:k.length<=1000000000)(H:N<=100000000) :
  Calls Tryz.prog 96 #[.pointer (some ⟨g,0,none⟩),kv] w fun e w'=>e=.returned (.tuple #[])/\∃ K' V' j',j'.U=j.U ++ [(k,look Q.flatten k)]/\SX w' K' (fun b=>D b\/w.heap.size<=b) F V' g m Q jv (T0 ++ [j']) oj n (N+1)/\(∀ b,K' b->K b\/w.heap.size<=b)/\Chg K w w':=by
 have E:=Bd h;have C:=xA h p r H;obtain⟨M,c,rfl,-⟩:=id p.ex;generalize k.length=kn at *
 have B:(0:Int) < ((T0 ++ [j]).length:Int):=by simp
 have L:Hid (∀ b,K b->b < w.heap.size):=fun b hb=>by obtain⟨cs,t,k,_⟩:=h.own.kind b hb;exact k.lt
 clear h p;generalize (T0 ++ [j]).length=tl at *;go_enter Tryz.func96,Tryz.ntmps96;go_wp2_with first
  | (go_at_call 144;go_must (refine E.mono ?_);rintro e y ⟨rfl,hy⟩;replace hy:=hy.symm;subst hy)
  | (go_at_call 146;go_must (refine C.mono ?_);rintro e d ⟨cl,S,rfl,⟨f,cap,rfl⟩,o,z,hS,s⟩;have al:=ae d (.cells #[.func (.func f) #[] cap] 1);have A:=aD d [.func (.func f) #[] cap] 1;have v:iY (d.alloc (.cells #[.func (.func f) #[] cap] 1)) (fun b=>V b\/S b) (fun b=>D b\/w.heap.size<=b) g [(k,look Q.flatten k)] [.func (.func f) #[] cap]:=⟨rfl,(fun i u c hu hc=>by (have hi:i=0:=(by have:=(List.getElem?_eq_some_iff.1 hu).1;simp at this;omega));subst hi;simp at hu hc;subst hu;subst hc;exact z.stay ⟨fun b _ _ _ k _=>al.block b k.lt,fun b B _ _=>al.block b B⟩)⟩;have G:Lies (d.alloc (.cells #[.func (.func f) #[] cap] 1)) (.slice (some ⟨d.heap.size,0,none⟩) 1 1) [.func (.func f) #[] cap]:=.inr ⟨_,1,rfl,(fun i x hx=>by (have hi:i=0:=(by have:=(List.getElem?_eq_some_iff.1 hx).1;simp at this;omega));subst hi;simp at hx;subst hx;exact A.cell (i:=0) rfl)⟩;have un:=xnote (N':=N+1) (o.keep al) v G (by omega) (by have:=o.tot;simp only[List.length_cons,List.length_nil];omega) (by omega);clear o z v G A E C)
  | (go_at_call 145;go_must (refine un.mono ?_);rintro e O ⟨rfl,K',j',q,I,l,hC⟩;clear un)
 go_end0;refine⟨rfl,K',_,j',q,I,fun b hb=>?_,?_⟩
 ·rcases l b hb with(h1 | h1) | h1
  ·exact .inl h1
  ·exact .inr (hS b h1)
  ·exact .inr (by have:=s.size;have:=al.size;omega)
 ·have J:=aA s al;exact(Chg.of (F:=K) J).trans hC (fun b hb e=>e.elim id (fun e=>by have:=hS b e;omega))
def BK(w:World)(K:Nat->Prop)(kv:Value)(k:List Int):Prop:=∀ w',Chg K w w'->By w' kv k
theorem BK.by(h:BK w K kv k):By w kv k:=h w (Chg.refl _ _)
theorem BK.shape(h:BK w K kv k):∃ ao c,kv=.slice ao k.length c:=by
 obtain⟨ao,c,e,_⟩:=h.by.ex
 exact⟨ao,c,e⟩
theorem fq{w1 w2:World}(h:Chg K w w1)(h':Chg K w1 w2):Chg K w w2:=h.trans h' (fun _ _ h=>h)
end
end Kv
end
section
namespace Kv
open Go.RowKit Go.Lib Pg
attribute [local go_sem] Oper.semAt_some
section
variable {T0 T:List Jr}{j:Jr}{W:List aE}{E E':aE}{w w':World}{K D F V:Nat->Prop}{g m n N:Nat}{Q:List (List KV)}{jv kv vv:Value}{oj:Option Nat}{k v:List Int}
theorem o8{j':Jr}{u:Und}(h:ll ((T0 ++ [j]).reverse.map Jr.U) W E)(a:j'.U=j.U ++ [u])(hu:y9 E' u=E):ll ((T0 ++ [j']).reverse.map Jr.U) W E':=by
 rw[List.reverse_append] at h ⊢;simp only[List.reverse_cons,List.reverse_nil,List.nil_append,List.cons_append,List.map_cons] at h ⊢
 cases W with
 | nil=>exact h.elim
 | cons e W=>exact⟨by rw[a,uX,hu];exact h.1,h.2⟩
theorem rG(h:ll [] W E):ll [] W E':=by
 cases W with
 | nil=>trivial
 | cons e W=>exact h.elim
def ju(k v:List Int):Int:=if k.length=0\/64 < k.length then 60 else if 4096 < v.length then 61 else 0
def Ends(w:World)(K D:Nat->Prop)(g:Nat)(E:aE)(W:List aE)(n N:Nat)(r:Value)(e:Ending)(w':World):Prop:=e=.returned r/\∃ K',SA w' K' (fun b=>D b\/w.heap.size<=b) g E W n N/\(∀ b,K' b->K b\/w.heap.size<=b)/\Chg K w w'
theorem SX.kg(h:SX w K D F V g m Q jv T oj n N)(hc:Chg (·=g) w w'):Chg K w w':=hc.mono (fun b _ e=>by have e':b=g:=e;subst e';exact h.own.top)
theorem yk(h:SA w K D g E W n N)(i:BK w K kv k)(hv:BK w K vv v)(hn:n<=4000000000000000000)(x:k.length=0) :
  Calls Tryz.prog 55 #[.pointer (some ⟨g,0,none⟩),kv,vv] w (Ends w K D g E W (n+1) (N+2) (.int .i64 60)):=by
 obtain⟨F,V,m,Q,s,T,t,hX,f,j⟩:=h.open;obtain⟨z,c,rfl⟩:=i.shape;obtain⟨y,d,rfl⟩:=hv.shape;have u:=gu hX hn;have l:=aC hX;have o:=aC f;have q:=aC j;generalize k.length=kn at *;generalize v.length=A at *
 have g0:(kn:Int)=0:=by omega
 clear hX f j h i hv;go_enter Tryz.func55,Tryz.ntmps55;go_wp2_with (go_at_call 95;go_must (refine u.mono ?_);rintro e B ⟨rfl,r,p⟩);go_ret;exact⟨rfl,K,(r.shut o.out q.out).more (by omega) |>.mono (fun _ _ h=>.inl h),fun b h=>.inl h,l.out.kg p⟩
theorem xE(h:SA w K D g E W n N)(i:BK w K kv k)(hv:BK w K vv v)(hn:n<=4000000000000000000)(y:¬ k.length=0)(s:64 < k.length) :
  Calls Tryz.prog 55 #[.pointer (some ⟨g,0,none⟩),kv,vv] w (Ends w K D g E W (n+1) (N+2) (.int .i64 60)):=by
 obtain⟨F,V,m,Q,t,T,x,hX,f,j⟩:=h.open;obtain⟨A,c,rfl⟩:=i.shape;obtain⟨z,d,rfl⟩:=hv.shape;have u:=gu hX hn;have l:=aC hX;have o:=aC f;have q:=aC j;generalize k.length=kn at *;generalize v.length=B at *
 have g0:((kn:Int)=0)=False:=eq_false (by omega)
 have g1:(64:Int) < kn:=by omega
 clear hX f j h i hv;go_enter Tryz.func55,Tryz.ntmps55;go_wp2_with (go_at_call 95;go_must (refine u.mono ?_);rintro e C ⟨rfl,r,p⟩);go_ret;exact⟨rfl,K,(r.shut o.out q.out).more (by omega) |>.mono (fun _ _ h=>.inl h),fun b h=>.inl h,l.out.kg p⟩
theorem AY(h:SA w K D g E W n N)(i:BK w K kv k)(hv:BK w K vv v)(hn:n<=4000000000000000000)(z:¬ k.length=0)(t:¬ 64 < k.length)(B:4096 < v.length) :
  Calls Tryz.prog 55 #[.pointer (some ⟨g,0,none⟩),kv,vv] w (Ends w K D g E W (n+1) (N+2) (.int .i64 61)):=by
 obtain⟨F,V,m,Q,x,T,y,hX,f,j⟩:=h.open;obtain⟨C,c,rfl⟩:=i.shape;obtain⟨A,d,rfl⟩:=hv.shape;have u:=gu hX hn;have l:=aC hX;have o:=aC f;have q:=aC j;generalize k.length=kn at *;generalize v.length=r at *
 have g0:((kn:Int)=0)=False:=eq_false (by omega)
 have g1:((64:Int) < kn)=False:=eq_false (by omega)
 have g2:(4096:Int) < r:=by omega
 clear hX f j h i hv;go_enter Tryz.func55,Tryz.ntmps55;go_wp2_with (go_at_call 95;go_must (refine u.mono ?_);rintro e G ⟨rfl,s,p⟩);go_ret;exact⟨rfl,K,(s.shut o.out q.out).more (by omega) |>.mono (fun _ _ h=>.inl h),fun b h=>.inl h,l.out.kg p⟩
theorem Cs(hX:SX w K D F V g m Q jv [] oj n N)(C:ll ([].reverse.map Jr.U) W Q.flatten)(t:BK w K kv k)(hv:BK w K vv v)(hn:n<=4000000000000000000)(s:N+2<=100000000)(I:¬ k.length=0)(l:¬ 64 < k.length)(J:¬ 4096 < v.length) :
  Calls Tryz.prog 55 #[.pointer (some ⟨g,0,none⟩),kv,vv] w (Ends w K D g (put Q.flatten k v) W (n+1) (N+2) (.int .i64 0)):=by
 obtain⟨T,c,rfl⟩:=t.shape;obtain⟨O,d,rfl⟩:=hv.shape;have u:=gu hX hn;have q:=aC hX;have L:=aC C;have A:=aC t;have z:=aC hv;have x:=aC (show k.length<=64 by omega);have r:=aC (show v.length<=4096 by omega);replace s:N<=99999998:=by omega
 have H:=s;replace s:N<=100000000:=by omega
 have g0:((k.length:Int)=0)=False:=eq_false (by omega)
 have g1:((64:Int) < k.length)=False:=eq_false (by omega)
 have g2:¬ ((4096:Int) < v.length):=by omega
 clear hX C t hv;obtain⟨kn,p⟩:∃ kn,Hid (k.length=kn):=⟨_,rfl⟩
 obtain⟨B,o⟩:∃ B,Hid (v.length=B):=⟨_,rfl⟩
 rw[p.out] at g0 g1 A I l ⊢;rw[o.out] at g2 z J ⊢;go_enter Tryz.func55,Tryz.ntmps55;go_wp2_with first
  | (go_at_call 95;go_must (refine u.mono ?_);rintro e R ⟨rfl,f,j⟩)
  | (go_at_call 96;go_must (refine(mM f).mono ?_);rintro e y ⟨rfl,hy⟩;replace hy:=hy.symm;subst hy;have c0:=f.blk.cell (i:=0) rfl;have us:=mset f.map (A.out _ (q.out.kg j)) (z.out _ (q.out.kg j)) (by have:=x.out;omega) (by have:=r.out;omega) (by omega))
  | (go_at_call 97;go_must (refine us.mono ?_);rintro e S ⟨rfl,P,G,hF,hC⟩)
 go_ret;have M:=f.mapped (N':=N+1) (by have:=f.tot;have:=wD f.map.ord.flat k v;rw[iM f.map.ord];omega) G hF (fun _ h=>.inl h) hC;refine⟨rfl,_,((M.shut (E:=put Q.flatten k v) (W:=W) (iM f.map.ord k v) (rG L.out)).more (by omega)).mono (fun b _ hb=>?_),fun b hb=>?_,?_⟩
 ·rcases hb with hb | hb
  ·exact .inl hb
  ·exact .inr (by have:=j.size;omega)
 ·rcases hb with⟨hb,_⟩ | hb
  ·exact .inl hb
  ·rcases hF b hb with l | l
   ·exact .inl (f.own.map b l)
   ·exact .inr (by have:=j.size;omega)
 ·exact fq (q.out.kg j) (hC.mono (fun b _ h=>f.own.map b h))
theorem zY(hX:SX w K D F V g m Q jv (T0 ++ [j]) oj n N)(I:ll ((T0 ++ [j]).reverse.map Jr.U) W Q.flatten)(A:BK w K kv k)(hv:BK w K vv v)(hn:n<=4000000000000000000)(s:N+2<=100000000)(M:¬ k.length=0)(r:¬ 64 < k.length)(O:¬ 4096 < v.length) :
  Calls Tryz.prog 55 #[.pointer (some ⟨g,0,none⟩),kv,vv] w (Ends w K D g (put Q.flatten k v) W (n+1) (N+2) (.int .i64 0)):=by
 obtain⟨ao,c,rfl⟩:=A.shape;obtain⟨Z,d,rfl⟩:=hv.shape;have u:=gu hX hn;have y:=aC hX;have P:=aC I;have B:=aC A;have G:=aC hv;have q:=aC (show k.length<=64 by omega);have z:=aC (show v.length<=4096 by omega);replace s:N<=99999998:=by omega
 have L:=s;replace s:N<=100000000:=by omega
 have g0:((k.length:Int)=0)=False:=eq_false (by omega)
 have g1:((64:Int) < k.length)=False:=eq_false (by omega)
 have g2:¬ ((4096:Int) < v.length):=by omega
 clear hX I A hv;obtain⟨kn,x⟩:∃ kn,Hid (k.length=kn):=⟨_,rfl⟩
 obtain⟨H,t⟩:∃ H,Hid (v.length=H):=⟨_,rfl⟩
 rw[x.out] at g0 g1 B M r ⊢;rw[t.out] at g2 G O ⊢;go_enter Tryz.func55,Tryz.ntmps55;go_wp2_with first
  | (go_at_call 95;go_must (refine u.mono ?_);rintro e w1 ⟨rfl,R,o⟩)
  | (go_at_call 96;go_must (refine(oI R (B.out _ (y.out.kg o)) (by have:=q.out;omega) s).mono ?_);rintro e w2 ⟨rfl,K2,X,Y,C,f,l,J⟩;have p:=fq (y.out.kg o) J;have c0:=f.blk.cell (i:=0) rfl;have us:=mset f.map (B.out _ p) (G.out _ p) (by have:=q.out;omega) (by have:=z.out;omega) (by omega))
  | (go_at_call 97;go_must (refine us.mono ?_);rintro e w3 ⟨rfl,F',T,hF,hC⟩)
 go_ret;have S:=f.mapped (N':=N+1+1) (by have:=f.tot;have:=wD f.map.ord.flat k v;rw[iM f.map.ord];omega) T hF (fun _ h=>.inl h) hC;refine⟨rfl,_,((S.shut (E:=put Q.flatten k v) (W:=W) (iM f.map.ord k v) (o8 P.out C (Az y.out.map.ord.flat k v))).more (by omega)).mono (fun b _ hb=>?_),fun b hb=>?_,?_⟩
 ·rcases hb with(hb | hb) | hb
  ·exact .inl hb
  ·exact .inr (by have:=o.size;omega)
  ·exact .inr (by have:=p.size;omega)
 ·rcases hb with⟨hb,_⟩ | hb
  ·exact(l b hb).imp id (fun h=>by have:=o.size;omega)
  ·rcases hF b hb with r | r
   ·exact(l b (f.own.map b r)).imp id (fun h=>by have:=o.size;omega)
   ·exact .inr (by have:=p.size;omega)
 ·exact p.trans hC (fun b hb h=>(l b (f.own.map b h)).elim id (fun h=>by have:=o.size;omega))
theorem sset(h:SA w K D g E W n N)(c:BK w K kv k)(hv:BK w K vv v)(hn:n<=4000000000000000000)(i:N+2<=100000000) :
  Calls Tryz.prog 55 #[.pointer (some ⟨g,0,none⟩),kv,vv] w (Ends w K D g (if ju k v=0 then put E k v else E) W (n+1) (N+2) (.int .i64 (ju k v))):=by
 by_cases a:k.length=0
 ·have e:ju k v=60:=by unfold ju; rw[if_pos (.inl a)]
  rw[e,if_neg (by decide)];exact yk h c hv hn a
 ·by_cases b:64 < k.length
  ·have e:ju k v=60:=by unfold ju; rw[if_pos (.inr b)]
   rw[e,if_neg (by decide)];exact xE h c hv hn a b
  ·by_cases d:4096 < v.length
   ·have e:ju k v=61:=by unfold ju; rw[if_neg (by omega),if_pos d]
    rw[e,if_neg (by decide)];exact AY h c hv hn a b d
   ·have e:ju k v=0:=by unfold ju; rw[if_neg (by omega),if_neg d]
    rw[e,if_pos rfl];obtain⟨F,V,m,Q,o,T,p,hX,rfl,f⟩:=h.open;rcases List.eq_nil_or_concat T with rfl | ⟨l,j,rfl⟩
    ·exact Cs hX f c hv hn i a b d
    ·rw[List.concat_eq_append] at hX f;exact zY hX f c hv hn i a b d
end
end Kv
end
end Go.Proofs.YtjejmkcjflhoiaaGreatDoor
