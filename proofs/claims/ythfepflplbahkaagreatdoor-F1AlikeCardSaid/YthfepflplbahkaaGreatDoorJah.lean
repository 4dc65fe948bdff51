import Derived.Test.YthfepflplbahkaaGreatDoorJag
import Derived.Laws.LoneSync
set_option maxRecDepth 100000
set_option maxHeartbeats 8000000
namespace Go.Proofs.YthfepflplbahkaaGreatDoor
section
namespace Kv
open Pg
section
variable {k x v:List Int}{Q:List (List KV)}
abbrev aD:=List KV
def eJ(E:aD):Prop:=E.Pairwise fun x y=>Lt x.1 y.1
def look(E:aD)(k:List Int):Option (List Int):=(E.find? (fun x=>decide (x.1=k))).map Prod.snd
def put(E:aD)(k v:List Int):aD:=E.filter (fun x=>decide (Lt x.1 k)) ++ (k,v) :: E.filter (fun x=>decide (Lt k x.1))
def rem(E:aD)(k:List Int):aD:=E.filter (fun x=>decide (¬ x.1=k))
theorem ec{α:Type}{p:α->Bool}{l:List α}(h:∀ x∈l,p x=true):l.filter p=l:=List.filter_eq_self.2 h
theorem im{α:Type}{p:α->Bool}{l:List α}(h:∀ x∈l,p x=false):l.filter p=[]:=List.filter_eq_nil_iff.2 (fun x hx=>by rw[h x hx];simp)
structure Cut(k:List Int)(X Y:aD):Prop where
 lo:∀ x∈X,Lt x.1 k
 hi:∀ y∈Y,Lt k y.1
theorem Cut.nx{X Y:aD}(h:Cut k X Y):∀ x∈X,¬ x.1=k:=fun x hx e=>by have:=h.lo x hx;rw[e] at this;exact lt_irrefl _ this
theorem Cut.ny{X Y:aD}(h:Cut k X Y):∀ x∈Y,¬ x.1=k:=fun x hx e=>by have:=h.hi x hx;rw[e] at this;exact lt_irrefl _ this
theorem BH{X:aD}(h:∀ x∈X,¬ x.1=k):look X k=none:=by
 unfold look;rw[List.find?_eq_none.2 (fun x hx=>by simp[h x hx])];rfl
theorem rj{X Y:aD}(h:∀ x∈X,¬ x.1=k):look (X ++ Y) k=look Y k:=by
 unfold look;rw[List.find?_append,List.find?_eq_none.2 (fun x hx=>by simp[h x hx])];simp
theorem Cut.rV{X Y:aD}(h:Cut k X Y):look (X ++ Y) k=none:=by rw[rj h.nx,BH h.ny]
theorem Cut.oJ{X Y:aD}(h:Cut k X Y):look (X ++ (k,x) :: Y) k=some x:=by
 rw[rj h.nx];simp[look]
theorem Cut.wO{X Y:aD}(h:Cut k X Y):put (X ++ Y) k v=X ++ (k,v) :: Y:=by
 unfold put;rw[List.filter_append,List.filter_append,ec (l:=X) (fun x hx=>decide_eq_true (h.lo x hx)),im (l:=Y) (fun x hx=>decide_eq_false (h.hi x hx).not),im (l:=X) (fun x hx=>decide_eq_false (h.lo x hx).not),ec (l:=Y) (fun x hx=>decide_eq_true (h.hi x hx))];simp
theorem Cut.wR{X Y:aD}(h:Cut k X Y):put (X ++ (k,x) :: Y) k v=X ++ (k,v) :: Y:=by
 unfold put;rw[List.filter_append,List.filter_append,ec (l:=X) (fun x hx=>decide_eq_true (h.lo x hx)),im (l:=X) (fun x hx=>decide_eq_false (h.lo x hx).not),List.filter_cons,List.filter_cons,im (l:=Y) (fun x hx=>decide_eq_false (h.hi x hx).not),ec (l:=Y) (fun x hx=>decide_eq_true (h.hi x hx)),decide_eq_false (lt_irrefl k)];simp
theorem Cut.xQ{X Y:aD}(h:Cut k X Y):rem (X ++ Y) k=X ++ Y:=by
 unfold rem;rw[List.filter_append,ec (l:=X) (fun x hx=>decide_eq_true (h.nx x hx)),ec (l:=Y) (fun x hx=>decide_eq_true (h.ny x hx))]
theorem Cut.BI{X Y:aD}(h:Cut k X Y):rem (X ++ (k,x) :: Y) k=X ++ Y:=by
 unfold rem;rw[List.filter_append,ec (l:=X) (fun x hx=>decide_eq_true (h.nx x hx)),List.filter_cons,ec (l:=Y) (fun x hx=>decide_eq_true (h.ny x hx))];simp
theorem pU{X Y:aD}(h:eJ (X ++ (k,x) :: Y)):Cut k X Y:=by
 unfold eJ at h;rw[List.pairwise_append,List.pairwise_cons] at h;exact⟨fun a ha=>h.2.2 a ha (k,x) List.mem_cons_self,fun b hb=>h.2.1.1 b hb⟩
theorem eJ.cut{E:aD}(h:eJ E)(k:List Int):∃ X Y,Cut k X Y/\((E=X ++ Y/\look E k=none)\/∃ x,E=X ++ (k,x) :: Y/\look E k=some x):=by
 induction E with
 | nil=>exact⟨[],[],⟨fun _ h=>by simp at h,fun _ h=>by simp at h⟩,.inl ⟨rfl,rfl⟩⟩
 | cons a E ih =>
  have b:=h;unfold eJ at b;rw[List.pairwise_cons] at b;rcases qv a.1 k with f | he | d
  ·obtain⟨X,Y,c,r⟩:=ih b.2
   have hc:Cut k (a :: X) Y:=⟨fun x hx=>by
    rcases List.mem_cons.1 hx with rfl | hx
    ·exact f
    ·exact c.lo x hx,c.hi⟩
   refine⟨a :: X,Y,hc,?_⟩;rcases r with⟨e,_⟩ | ⟨x,e,_⟩
   ·subst e;exact .inl ⟨rfl,hc.rV⟩
   ·subst e;exact .inr ⟨x,rfl,hc.oJ⟩
  ·have hc:Cut k [] E:=⟨fun _ h=>by simp at h,fun y hy=>by rw[<- he];exact b.1 y hy⟩
   obtain⟨i,g⟩:=a;simp only at he;subst he;exact⟨[],E,hc,.inr ⟨g,rfl,hc.oJ⟩⟩
  ·have hc:Cut k [] (a :: E):=⟨fun _ h=>by simp at h,fun y hy=>by
    rcases List.mem_cons.1 hy with rfl | hy
    ·exact d
    ·exact d.trans (b.1 y hy)⟩
   exact⟨[],a :: E,hc,.inl ⟨rfl,hc.rV⟩⟩
theorem qX{X Y:aD}(h:eJ (X ++ Y))(c:Cut k X Y):eJ (X ++ (k,v) :: Y):=by
 unfold eJ at h ⊢;rw[List.pairwise_append] at h;rw[List.pairwise_append,List.pairwise_cons];refine⟨h.1,⟨fun y hy=>c.hi y hy,h.2.1⟩,fun x hx y hy=>?_⟩;rcases List.mem_cons.1 hy with rfl | hy
 ·exact c.lo x hx
 ·exact h.2.2 x hx y hy
theorem xV{X Y:aD}(h:eJ (X ++ (k,v) :: Y)):eJ (X ++ Y):=by
 unfold eJ at h ⊢;rw[List.pairwise_append,List.pairwise_cons] at h;rw[List.pairwise_append];exact⟨h.1,h.2.1.2,fun x hx y hy=>h.2.2 x hx y (List.mem_cons_of_mem _ hy)⟩
theorem eJ.put{E:aD}(h:eJ E)(k v:List Int):eJ (put E k v):=by
 obtain⟨X,Y,c,⟨rfl,_⟩ | ⟨x,rfl,_⟩⟩:=h.cut k
 ·rw[c.wO];exact qX h c
 ·rw[c.wR];exact qX (xV h) c
theorem eJ.rem{E:aD}(h:eJ E)(k:List Int):eJ (rem E k):=List.Pairwise.filter _ h
abbrev Und:=List Int × Option (List Int)
def Aw(E:aD)(u:Und):aD:=match u.2 with
 | none=>rem E u.1
 | some v=>put E u.1 v
theorem AU{E:aD}(h:eJ E)(k v:List Int):Aw (put E k v) (k,look E k)=E:=by
 obtain⟨X,Y,c,⟨rfl,e⟩ | ⟨x,rfl,e⟩⟩:=h.cut k
 ·rw[e,c.wO];exact c.BI
 ·rw[e,c.wR];exact c.wR
theorem zP{E:aD}(h:eJ E)(k:List Int):Aw (rem E k) (k,look E k)=E:=by
 obtain⟨X,Y,c,⟨rfl,e⟩ | ⟨x,rfl,e⟩⟩:=h.cut k
 ·rw[e,c.xQ];exact c.xQ
 ·rw[e,c.BI];exact c.wO
def vO(U:List Und)(E:aD):aD:=U.foldr (fun u E=>Aw E u) E
theorem uz(U:List Und)(u:Und)(E:aD):vO (U ++ [u]) E=vO U (Aw E u):=by simp[vO]
def jV:List (List Und)->List aD->aD->Prop
 | [],[],_=>True
 | U :: J,e :: W,E=>vO U E=e/\jV J W e
 | _,_,_=>False
theorem iF(h:kB Q)(k v:List Int):(xn Q k v).flatten=put Q.flatten k v:=by
 cases hh:gB Q k
 ·obtain⟨X,Y,e1,e2,b,a⟩:=h.ik v hh;rw[e1,e2,Cut.wO ⟨b,a⟩]
 ·obtain⟨X,x,Y,e1,e2⟩:=h.uN v hh;have c:=pU (by have:=h.flat;rw[e1] at this;exact this);rw[e1,e2,c.wR]
theorem jL(h:kB Q)(k:List Int):gB Q k=(look Q.flatten k).isSome:=by
 cases hh:gB Q k
 ·obtain⟨X,Y,e1,_,b,a⟩:=h.ik [] hh;rw[e1,Cut.rV ⟨b,a⟩];rfl
 ·obtain⟨X,x,Y,e1,_⟩:=h.uN [] hh;have c:=pU (by have:=h.flat;rw[e1] at this;exact this);rw[e1,c.oJ];rfl
theorem iw(h:kB Q)(k:List Int):(sF Q k).flatten=rem Q.flatten k:=by
 cases hh:gB Q k
 ·rw[wA hh];obtain⟨X,Y,e1,_,b,a⟩:=h.ik [] hh;rw[e1,Cut.xQ ⟨b,a⟩]
 ·obtain⟨X,x,Y,e1,e2⟩:=h.Cy hh;have c:=pU (by have:=h.flat;rw[e1] at this;exact this);rw[e1,e2,c.BI]
theorem Cd(a:gB Q k=true):(k,wY Q k)∈Q.flatten:=by
 unfold gB thr at a;simp only[Bool.and_eq_true,Bool.not_eq_true',decide_eq_true_eq] at a;obtain⟨_,b⟩:=a;unfold wY;rw[List.getElem?_map] at b;obtain⟨x,hx,d⟩:=Option.map_eq_some_iff.1 b;rw[hx];simp only[Option.map_some,Option.getD_some];have hm:=List.mem_of_getElem? hx
 have c:x=(k,x.2):=by rw[<- d]
 rw[<- c];rw[List.getD_eq_getElem?_getD] at hm
 cases hq:Q[apl Q k]? with
 | none=>rw[hq] at hm;simp at hm
 | some p=>rw[hq] at hm;exact List.mem_flatten.2 ⟨p,List.mem_of_getElem? hq,hm⟩
theorem Av(h:kB Q)(k:List Int):(if gB Q k then wY Q k else [])=(look Q.flatten k).getD []:=by
 cases hh:gB Q k
 ·have:=jL h k;rw[hh] at this
  cases hl:look Q.flatten k with
  | none=>rfl
  | some x=>rw[hl] at this;cases this
 ·have hm:=Cd hh;obtain⟨X,Y,e⟩:=List.append_of_mem hm;have c:=pU (by have:=h.flat;rw[e] at this;exact this);rw[e,c.oJ];rfl
theorem jG{E:aD}(h:look E k=some x):(k,x)∈E:=by
 unfold look at h;obtain⟨a,c,rfl⟩:=Option.map_eq_some_iff.1 h;have d:=List.mem_of_find?_eq_some c;have b:=List.find?_some c;simp only[decide_eq_true_eq] at b;rw[<- b];exact d
theorem uS{E:aD}(h:eJ E)(k v:List Int):(put E k v).length<=E.length+1:=by
 obtain⟨X,Y,c,⟨rfl,_⟩ | ⟨x,rfl,_⟩⟩:=h.cut k
 ·rw[c.wO];simp;omega
 ·rw[c.wR];simp
theorem vo{E:aD}(k:List Int):(rem E k).length<=E.length:=List.length_filter_le _ _
end
end Kv
end
section
namespace Pg
open Go.RowKit Go.Lib
section
variable {L:List Pg}{N g b:Nat}{w w':World}{F D:Nat->Prop}{Q:List (List KV)}{P:List (List En)}{p:En->Prop}{kv:Value}{k:List Int}
structure Mp(w:World)(F D:Nat->Prop)(g:Nat)(Q:List (List KV))(N:Nat):Prop where
 ex:∃ L,abs (ens L)=Q/\bL w F D g L/\Ord (ens L)/\Shq (ens L)/\(ens L).flatten.length<=N/\∀ es∈ens L,∀ e∈es,e.kl.length<=1000000000/\e.vl.length<=1000000000
theorem vd:∀ {P:List (List En)},(∀ es∈P,1<=es.length)->P.length<=P.flatten.length
 | [],_=>Nat.le_refl _
 | a :: P,h=>by
  have h1:=h a List.mem_cons_self;have b:=vd (P:=P) fun es he=>h es (List.mem_cons_of_mem _ he)
  simp only[List.flatten_cons,List.length_append,List.length_cons];omega
theorem Shq.few(h:Shq (ens L))(hN:(ens L).flatten.length<=N)(hb:N<=100000000):L.length<=100000000:=by
 have h1:=vd fun es he=>(h.one es he).1
 have h2:(ens L).length=L.length:=by simp[ens]
 omega
theorem Mp.lt(M:Mp w F D g Q N)(hb:F b):b < w.heap.size:=by
 obtain⟨L,_,A,_⟩:=M.ex;exact A.lt hb
theorem Mp.noU(M:Mp w F D g Q N)(hb:F b)(cs:List Value):¬ Blk w b cs 5:=by
 obtain⟨L,_,A,_⟩:=M.ex;exact A.noU hb cs
theorem Mp.keep(M:Mp w F D g Q N)(hb:Below w.heap.size w w'):Mp w' F D g Q N:=by
 obtain⟨L,e,A,r⟩:=M.ex;exact⟨L,e,A.keep hb,r⟩
theorem Mp.same(M:Mp w F D g Q N)(a:∀ b,F b->w'.heap[b]?=w.heap[b]?)(c:∀ b,b < w.heap.size->D b->(∃ cs,Blk w b cs 5)->w'.heap[b]?=w.heap[b]?):Mp w' F D g Q N:=by
 obtain⟨L,e,A,r⟩:=M.ex;exact⟨L,e,A.same a c,r⟩
theorem Mp.chg{F':Nat->Prop}(M:Mp w F D g Q N)(hc:Chg F' w w')(h1:∀ b,F' b->¬ F b)(h2:∀ b,F' b->∀ cs,¬ Blk w b cs 5):Mp w' F D g Q N:=by
 obtain⟨L,e,A,r⟩:=M.ex;exact⟨L,e,A.chg hc h1 h2,r⟩
theorem Mp.mono{D':Nat->Prop}(M:Mp w F D g Q N)(hD:∀ b,b < w.heap.size->D b->D' b):Mp w F D' g Q N:=by
 obtain⟨L,e,A,r⟩:=M.ex;exact⟨L,e,A.mono hD,r⟩
theorem Mp.more{N':Nat}(M:Mp w F D g Q N)(h:N<=N'):Mp w F D g Q N':=by
 obtain⟨L,e,A,O,S,n,r⟩:=M.ex;exact⟨L,e,A,O,S,by omega,r⟩
theorem Mp.ord(M:Mp w F D g Q N):kB Q:=by
 obtain⟨L,e,A,O,_⟩:=M.ex;exact⟨_,e,O⟩
theorem Mp.len(M:Mp w F D g Q N):Q.flatten.length<=N:=by
 obtain⟨L,rfl,A,O,S,n,r⟩:=M.ex;rw[du,List.length_map];exact n
theorem Mp.small(M:Mp w F D g Q N):∀ x∈Q.flatten,x.1.length<=1000000000/\x.2.length<=1000000000:=by
 obtain⟨L,rfl,A,O,S,n,r⟩:=M.ex;intro x hx;rw[du] at hx;obtain⟨e,he,rfl⟩:=List.mem_map.1 hx;obtain⟨es,b,a⟩:=List.mem_flatten.1 he;exact r es b e a
theorem mX:(∀ es∈P,∀ e∈es,p e)<->∀ e∈P.flatten,p e :=
 ⟨fun h e he=>by obtain⟨es,h1,h2⟩:=List.mem_flatten.1 he;exact h es h1 e h2,fun h es he e hee=>h e (List.mem_flatten.2 ⟨es,he,hee⟩)⟩
theorem mnew:Calls Tryz.prog 43 #[] w fun e w'=>e=.returned (.pointer (some ⟨w.heap.size,0,none⟩))/\Mp w' (· = w.heap.size) (fun _=>False) w.heap.size [] 0/\Below w.heap.size w w' :=
 Dw.mono fun e w' ⟨g,he,a,A,B⟩=>by
  subst a;exact⟨he,⟨[],rfl,A,⟨fun _ h=>by simp[ens] at h,List.Pairwise.nil⟩,Shq.nil,Nat.le_refl _,fun _ h=>by simp[ens] at h⟩,B⟩
theorem mset{vv:Value}{v:List Int}(M:Mp w F D g Q N)(f:By w kv k)(hv:By w vv v)(c:k.length<=1000000000)(a:v.length<=1000000000)(j:N<=100000000) :
  Calls Tryz.prog 97 #[.pointer (some ⟨g,0,none⟩),kv,vv] w fun e w'=>e=.returned (.bool (!gB Q k))/\∃ F',Mp w' F' (fun b=>D b\/w.heap.size<=b) g (xn Q k v) (N+1)/\(∀ b,F' b->F b\/w.heap.size<=b)/\Chg F w w':=by
 obtain⟨L,rfl,A,O,S,n,r⟩:=M.ex;refine(CA A O (fun es he=>(S.one es he).2) (S.few n j) f hv c a).mono fun e w' ⟨he,F',l,nk,d,e1,i,hF,hc⟩=>?_
 refine⟨by rw[gv];exact he,F',⟨l,by rw[e1,pR],i,by rw[e1];exact O.set _,by rw[e1];exact S.set O _,?_,?_⟩,hF,hc⟩
 ·rw[e1,Cr O];split<;>omega
 ·rw[e1];rw[mX] at r ⊢;intro x hx
  cases hh:has (ens L) k
  ·obtain⟨X,Y,e2,e3,_⟩:=gC O (e:=⟨nk,k,d,v⟩) hh;rw[e3] at hx;rw[e2] at r;rcases List.mem_append.1 hx with h | h
   ·exact r x (List.mem_append_left _ h)
   ·rcases List.mem_cons.1 h with h | h
    ·subst h;exact⟨c,a⟩
    ·exact r x (List.mem_append_right _ h)
  ·obtain⟨X,y,Y,e2,hy,e3⟩:=gx O (e:=⟨nk,k,d,v⟩) hh;rw[e3] at hx;rw[e2] at r;rcases List.mem_append.1 hx with h | h
   ·exact r x (List.mem_append_left _ h)
   ·rcases List.mem_cons.1 h with h | h
    ·subst h;exact⟨by simp only;rw[hy];exact c,a⟩
    ·exact r x (List.mem_append_right _ (List.mem_cons_of_mem _ h))
theorem mdel(M:Mp w F D g Q N)(c:By w kv k)(a:N<=100000000) :
  Calls Tryz.prog 122 #[.pointer (some ⟨g,0,none⟩),kv] w fun e w'=>e=.returned (.bool (gB Q k))/\∃ F',Mp w' F' D g (sF Q k) N/\(∀ b,F' b->F b\/w.heap.size<=b)/\Chg F w w':=by
 obtain⟨L,rfl,A,O,S,n,r⟩:=M.ex;refine(sP A O (fun es he=>(S.one es he).2) (S.few n a) c).mono fun e w' ⟨he,F',d,e1,f,hF,hc⟩=>?_
 refine⟨by rw[gv];exact he,F',⟨d,by rw[e1,uY],f,by rw[e1];exact O.del _,by rw[e1];exact S.del O _,?_,?_⟩,hF,hc⟩
 ·rw[e1]
  cases hh:has (ens L) k
  ·rw[q9 hh];exact n
  ·obtain⟨X,x,Y,e2,_,e3⟩:=mg O hh;rw[e2] at n;rw[e3];simp only[List.length_append,List.length_cons] at n ⊢;omega
 ·rw[e1];rw[mX] at r ⊢;intro x hx
  cases hh:has (ens L) k
  ·rw[q9 hh] at hx;exact r x hx
  ·obtain⟨X,y,Y,e2,_,e3⟩:=mg O hh;rw[e3] at hx;rw[e2] at r;rcases List.mem_append.1 hx with h | h
   ·exact r x (List.mem_append_left _ h)
   ·exact r x (List.mem_append_right _ (List.mem_cons_of_mem _ h))
theorem mget(M:Mp w F D g Q N)(a:By w kv k)(b:N<=100000000) :
  Calls Tryz.prog 170 #[.pointer (some ⟨g,0,none⟩),kv] w fun e w'=>∃ v,e=.returned (.tuple #[v,.bool (gB Q k)])/\OB w' (w.heap.size <= ·) v (if gB Q k then wY Q k else [])/\Below w.heap.size w w':=by
 obtain⟨L,rfl,A,O,S,n,r⟩:=M.ex;rw[gv,CI];exact Ct A O (fun es he=>by have:=(S.one es he).2;omega) (S.few n b) a fun p c e he=>(r p.es (List.mem_map.2 ⟨p,c,rfl⟩) e he).2
end
end Pg
end
section
namespace Kv
open Go.RowKit Go.Lib Pg
section
variable {V D V' D' K:Nat->Prop}{w w':World}{v c jv:Value}{l:List Int}{g b n N:Nat}{cs cs':List Value}{oj:Option Nat}{E:aD}{W:List aD}
theorem KF:Kd Tryz.prog 270 1 1 8 .nilFunc:=⟨by kernel_rfl,by kernel_rfl,rfl,by simp[Value.cells,Value.oneCell'],by decide⟩
structure nB(w:World)(V D:Nat→Prop)(g:Nat)(u:Und)(c:Value):Prop where
  short:u.1.length≤1000000000∧∀ x,u.2=some x→x.length≤1000000000
  ex:∃ s1 s2 kv,V s1∧V s2∧Blk w s1 [.pointer (some ⟨g,0,none⟩)] 37∧Blk w s2 [kv] 96∧OB w D kv u.1 ∧
    ((u.2 = none ∧ c = .func (.func 191) #[] #[.pointer (some ⟨s1, 0, none⟩), .pointer (some ⟨s2, 0, none⟩)]) ∨
     ∃ s3 vv x,V s3∧Blk w s3 [vv] 96∧OB w D vv x∧u.2=some x∧c=.func (.func 192) #[] #[.pointer (some ⟨s1,0,none⟩),.pointer (some ⟨s2,0,none⟩),.pointer (some ⟨s3,0,none⟩)])
structure kZ(V D:Nat->Prop)(w w':World):Prop where
 var:∀ b cs t,V b->Blk w b cs t->(t=37\/t=96)->w'.heap[b]?=w.heap[b]?
 byt:∀ b,b < w.heap.size->D b->(∃ cs,Blk w b cs 5)->w'.heap[b]?=w.heap[b]?
theorem kZ.ob(h:kZ V D w w')(O:OB w D v l):OB w' D v l :=
 ⟨O.oct,O.ex.imp id (by
  rintro⟨b,c,e,hd,hR⟩
  exact⟨b,c,e,hd,hR.same (h.byt b hR.lt hd hR.kind)⟩)⟩
theorem nB.stay{u:Und}(h:nB w V D g u c)(hs:kZ V D w w'):nB w' V D g u c:=by
 obtain⟨s1,s2,kv,v1,v2,b1,b2,ok,r⟩:=h.ex;refine⟨h.short,s1,s2,kv,v1,v2,b1.same (hs.var _ _ _ v1 b1 (.inl rfl)),b2.same (hs.var _ _ _ v2 b2 (.inr rfl)),hs.ob ok,r.imp id ?_⟩;rintro⟨s3,vv,x,v3,b3,a,e⟩;exact⟨s3,vv,x,v3,b3.same (hs.var _ _ _ v3 b3 (.inr rfl)),hs.ob a,e⟩
theorem nB.mono{u:Und}(h:nB w V D g u c)(a:∀ b,V b->V' b)(d:∀ b,b < w.heap.size->D b->D' b):nB w V' D' g u c:=by
 obtain⟨s1,s2,kv,v1,v2,b1,b2,ok,r⟩:=h.ex;refine⟨h.short,s1,s2,kv,a _ v1,a _ v2,b1,b2,ok.mono d,r.imp id ?_⟩;rintro⟨s3,vv,x,v3,b3,f,e⟩;exact⟨s3,vv,x,a _ v3,b3,f.mono d,e⟩
theorem nB.one{u:Und}(h:nB w V D g u c):c.oneCell'=true:=by
 obtain⟨s1,s2,kv,v1,v2,b1,b2,ok,⟨_,rfl⟩ | ⟨s3,vv,x,v3,b3,ov,_,rfl⟩⟩:=h.ex<;>rfl
def iI(w:World)(V D:Nat->Prop)(g:Nat)(U:List Und)(cs:List Value):Prop:=cs.length=U.length/\∀ (i:Nat) u c,U[i]?=some u->cs[i]?=some c->nB w V D g u c
theorem iI.stay{U:List Und}(h:iI w V D g U cs)(hs:kZ V D w w'):iI w' V D g U cs:=⟨h.1,fun i u c hu hc=>(h.2 i u c hu hc).stay hs⟩
theorem iI.mono{U:List Und}(h:iI w V D g U cs)(hV:∀ b,V b->V' b)(hD:∀ b,b < w.heap.size->D b->D' b):iI w V' D' g U cs:=⟨h.1,fun i u c hu hc=>(h.2 i u c hu hc).mono hV hD⟩
theorem iI.app{U b:List Und}(h:iI w V D g U cs)(a:iI w V D g b cs'):iI w V D g (U ++ b) (cs ++ cs'):=by
 refine⟨by rw[List.length_append,List.length_append,h.1,a.1],fun i u c hu hc=>?_⟩;by_cases hi:i < U.length
 ·rw[List.getElem?_append_left hi] at hu;rw[List.getElem?_append_left (by rw[h.1];exact hi)] at hc;exact h.2 i u c hu hc
 ·rw[List.getElem?_append_right (by omega)] at hu;rw[List.getElem?_append_right (by rw[h.1];omega),h.1] at hc;exact a.2 _ u c hu hc
theorem iI.one{U:List Und}(h:iI w V D g U cs):∀ c∈cs,c.oneCell'=true:=fun c hc=>by
 obtain⟨i,hi⟩:=List.getElem?_of_mem hc;have a:=(List.getElem?_eq_some_iff.1 hi).1;exact(h.2 i (U[i]'(by rw[<- h.1];exact a)) c (List.getElem?_eq_getElem _) hi).one
structure Jr where
 U:List Und
 v:Value
 o:Option Nat
def JrA(w:World)(V D:Nat->Prop)(g:Nat)(j:Jr):Prop:=∃ cs,iI w V D g j.U cs/\((j.o=none/\j.v=.slice none 0 0/\j.U=[])\/∃ b c,j.o=some b/\j.v=.slice (some ⟨b,0,none⟩) j.U.length c/\Rw w 1 1 b j.U.length c cs)
theorem JrA.stay{j:Jr}(h:JrA w V D g j)(hs:kZ V D w w')(a:∀ b,j.o=some b->w'.heap[b]?=w.heap[b]?):JrA w' V D g j:=by
 obtain⟨cs,hc,r⟩:=h;refine⟨cs,hc.stay hs,r.imp id ?_⟩;rintro⟨b,c,e1,e2,d⟩;exact⟨b,c,e1,e2,d.same (a b e1)⟩
theorem JrA.mono{j:Jr}(h:JrA w V D g j)(hV:∀ b,V b->V' b)(hD:∀ b,b < w.heap.size->D b->D' b):JrA w V' D' g j:=by
 obtain⟨cs,hc,r⟩:=h;exact⟨cs,hc.mono hV hD,r⟩
theorem JrA.kind{j:Jr}(h:JrA w V D g j)(hb:j.o=some b):∃ cs,Blk w b cs 1:=by
 obtain⟨cs,hc,⟨e,_⟩ | ⟨b',c,e,_,hR⟩⟩:=h
 ·rw[hb] at e;cases e
 ·rw[hb] at e;cases e;exact hR.kind
structure JnA(w:World)(V D:Nat->Prop)(g:Nat)(jv:Value)(T:List Jr)(oj:Option Nat):Prop where
 row:(oj=none/\jv=.slice none 0 0/\T=[])\/∃ b c,oj=some b/\jv=.slice (some ⟨b,0,none⟩) T.length c/\Rw w 273 1 b T.length c (T.map Jr.v)
 each:∀ j∈T,JrA w V D g j
 apart:(T.filterMap Jr.o).Nodup
theorem JnA.stay{T:List Jr}(h:JnA w V D g jv T oj)(hs:kZ V D w w')(d:∀ b,oj=some b->w'.heap[b]?=w.heap[b]?)(hb:∀ j∈T,∀ b,j.o=some b->w'.heap[b]?=w.heap[b]?):JnA w' V D g jv T oj :=
 ⟨h.row.imp id (by rintro⟨b,c,e1,e2,e⟩;exact⟨b,c,e1,e2,e.same (d b e1)⟩),fun j a=>(h.each j a).stay hs (hb j a),h.apart⟩
theorem JnA.mono{T:List Jr}(h:JnA w V D g jv T oj)(hV:∀ b,V b->V' b)(hD:∀ b,b < w.heap.size->D b->D' b):JnA w V' D' g jv T oj :=
 ⟨h.row,fun j hj=>(h.each j hj).mono hV hD,h.apart⟩
theorem JnA.kind{T:List Jr}(h:JnA w V D g jv T oj)(hb:oj=some b):∃ cs,Blk w b cs 273:=by
 rcases h.row with⟨e,_⟩ | ⟨b',c,e,_,hR⟩
 ·rw[hb] at e;cases e
 ·rw[hb] at e;cases e;exact hR.kind
def tot(T:List Jr):Nat:=(T.map fun j=>j.U.length).sum
structure Own(w:World)(K F V:Nat->Prop)(g:Nat)(T:List Jr)(oj:Option Nat):Prop where
 top:K g
 map:∀ b,F b->K b
 var:∀ b,V b->K b
 jrn:∀ b,oj=some b->K b
 bck:∀ j∈T,∀ b,j.o=some b->K b
 kind:∀ b,K b->∃ cs t,Blk w b cs t/\t≠5
 o7:¬ F g
 sY:∀ b,V b->¬ F b
 qM:∀ b,oj=some b->¬ F b
 nD:∀ j∈T,∀ b,j.o=some b->¬ F b
 vk:∀ b,V b->∃ cs t,Blk w b cs t/\(t=37\/t=96)
structure SA(w:World)(K D:Nat->Prop)(g:Nat)(E:aD)(W:List aD)(n N:Nat):Prop where
 ex:∃ F V m Q jv T oj,Blk w g [.pointer (some ⟨m,0,none⟩),jv,.int .i64 n] 94/\Mp w F D m Q N/\Q.flatten=E/\JnA w V D g jv T oj/\jV (T.reverse.map Jr.U) W E/\tot T+E.length<=N/\T.length<=16/\Own w K F V g T oj
theorem SA.lt(h:SA w K D g E W n N)(hb:K b):b < w.heap.size:=by
 obtain⟨F,V,m,Q,jv,T,oj,_,_,_,_,_,_,_,O⟩:=h.ex;obtain⟨cs,t,h,_⟩:=O.kind b hb;exact h.lt
theorem SA.top(h:SA w K D g E W n N):K g:=by
 obtain⟨F,V,m,Q,jv,T,oj,_,_,_,_,_,_,_,O⟩:=h.ex;exact O.top
theorem Own.same{F:Nat->Prop}{T:List Jr}(O:Own w K F V g T oj)(d:∀ b,K b->w'.heap[b]?=w.heap[b]?):Own w' K F V g T oj :=
 ⟨O.top,O.map,O.var,O.jrn,O.bck,fun b hb=>by
  obtain⟨cs,t,c,a⟩:=O.kind b hb;exact⟨cs,t,c.same (d b hb),a⟩,O.o7,O.sY,O.qM,O.nD,fun b hv=>by
  obtain⟨cs,t,c,a⟩:=O.vk b hv
  exact⟨cs,t,c.same (d b (O.var b hv)),a⟩⟩
theorem SA.same(h:SA w K D g E W n N)(a:∀ b,K b->w'.heap[b]?=w.heap[b]?)(d:∀ b,b < w.heap.size->D b->(∃ cs,Blk w b cs 5)->w'.heap[b]?=w.heap[b]?):SA w' K D g E W n N:=by
 obtain⟨F,V,m,Q,o,T,k,hb,hm,he,l,p,f,i,O⟩:=h.ex
 have hs:kZ V D w w':=⟨fun b _ _ hv _ _=>a b (O.var b hv),d⟩
 exact⟨F,V,m,Q,o,T,k,hb.same (a g O.top),hm.same (fun b hF=>a b (O.map b hF)) d,he,l.stay hs (fun b e=>a b (O.jrn b e)) (fun j c b e=>a b (O.bck j c b e)),p,f,i,O.same a⟩
theorem SA.keep(h:SA w K D g E W n N)(hb:Below w.heap.size w w'):SA w' K D g E W n N:=h.same (fun b hK=>hb.block b (h.lt hK)) (fun b hl _ _=>hb.block b hl)
theorem SA.chg{a:Nat->Prop}(h:SA w K D g E W n N)(hc:Chg a w w')(j:∀ b,a b->¬ K b)(i:∀ b,a b->∀ cs,¬ Blk w b cs 5):SA w' K D g E W n N :=
 h.same (fun b c=>hc.same b (h.lt c) fun f=>j b f c) (fun b d _ e=>hc.same b d fun f=>by obtain⟨cs,k⟩:=e;exact i b f cs k)
theorem SA.mono(h:SA w K D g E W n N)(a:∀ b,b < w.heap.size->D b->D' b):SA w K D' g E W n N:=by
 obtain⟨F,V,m,Q,d,T,i,hb,hm,he,j,f,c,e,O⟩:=h.ex;exact⟨F,V,m,Q,d,T,i,hb,hm.mono a,he,j.mono (fun _ h=>h) a,f,c,e,O⟩
theorem SA.more{N':Nat}(h:SA w K D g E W n N)(a:N<=N'):SA w K D g E W n N':=by
 obtain⟨F,V,m,Q,c,T,f,hb,hm,he,i,e,b,d,O⟩:=h.ex;exact⟨F,V,m,Q,c,T,f,hb,hm.more a,he,i,e,Nat.le_trans b a,d,O⟩
theorem SA.size(h:SA w K D g E W n N):E.length<=N:=by
 obtain⟨F,V,m,Q,jv,T,oj,hb,hm,rfl,_⟩:=h.ex;exact hm.len
theorem SA.small(h:SA w K D g E W n N):∀ x∈E,x.1.length<=1000000000/\x.2.length<=1000000000:=by
 obtain⟨F,V,m,Q,jv,T,oj,hb,hm,rfl,_⟩:=h.ex;exact hm.small
end
end Kv
end
section
namespace Kv
open Go.RowKit Go.Lib Pg
attribute [local go_sem] Oper.semAt_some
section
variable {w w':World}{K D F V:Nat->Prop}{g n N m:Nat}{E:aD}{W:List aD}{Q:List (List KV)}{jv kv:Value}{T:List Jr}{oj:Option Nat}{x:Int}{cs:List Value}{ao:Option Addr}{k:List Int}
structure SX(w:World)(K D F V:Nat->Prop)(g m:Nat)(Q:List (List KV))(jv:Value)(T:List Jr)(oj:Option Nat)(n N:Nat):Prop where
 blk:Blk w g [.pointer (some ⟨m,0,none⟩),jv,.int .i64 n] 94
 map:Mp w F D m Q N
 jn:JnA w V D g jv T oj
 tot:tot T+Q.flatten.length<=N
 len:T.length<=16
 own:Own w K F V g T oj
theorem SA.open(h:SA w K D g E W n N):∃ F V m Q jv T oj,SX w K D F V g m Q jv T oj n N/\Q.flatten=E/\jV (T.reverse.map Jr.U) W E:=by
 obtain⟨F,V,m,Q,jv,T,oj,hb,hm,he,d,c,a,b,O⟩:=h.ex;exact⟨F,V,m,Q,jv,T,oj,⟨hb,hm,d,by rw[he];exact a,b,O⟩,he,c⟩
theorem SX.shut(h:SX w K D F V g m Q jv T oj n N)(he:Q.flatten=E)(a:jV (T.reverse.map Jr.U) W E):SA w K D g E W n N :=
 ⟨F,V,m,Q,jv,T,oj,h.blk,h.map,he,h.jn,a,by have:=h.tot;rw[he] at this;exact this,h.len,h.own⟩
theorem lD{x:Nat}{t:TypeId}(hx:Blk w x cs t)(j:t≠37)(h:t≠96)(i:t≠5)(hc:Chg (·=x) w w'):kZ V D w w' :=
 ⟨fun b c l _ hb d=>hc.same b hb.lt (fun e=>by
  have a:b=x:=e;subst a;have:=(hx.eq hb).2;subst this;exact d.elim j h),fun b f _ g=>hc.same b f (fun e=>by
  have a:b=x:=e;subst a;obtain⟨c,k⟩:=g
  exact i (hx.eq k).2)⟩
theorem Own.chg1{x:Nat}(O:Own w K F V g T oj)(hs:kZ V D w w')(hc:Chg (·=x) w w'){t:TypeId}(hx:Blk w' x cs t)(a:t≠5):Own w' K F V g T oj :=
 ⟨O.top,O.map,O.var,O.jrn,O.bck,fun b hb=>by
  by_cases e:b=x
  ·subst e;exact⟨cs,t,hx,a⟩
  ·obtain⟨d,h,c,f⟩:=O.kind b hb;exact⟨d,h,c.chg hc e,f⟩,O.o7,O.sY,O.qM,O.nD,fun b hv=>by
  obtain⟨cs,t,c,a⟩:=O.vk b hv
  exact⟨cs,t,c.same (hs.var b cs t hv c a),a⟩⟩
theorem SX.top{d:Nat}(h:SX w K D F V g m Q jv T oj n N)(hc:Chg (·=g) w w')(hb:Blk w' g [.pointer (some ⟨m,0,none⟩),jv,.int .i64 d] 94):SX w' K D F V g m Q jv T oj d N :=
 ⟨hb,h.map.chg hc (fun b e hF=>h.own.o7 (by have a:b=g:=e; exact a▸hF)) (fun b e cs k=>by
   have a:b=g:=e;subst a
   exact absurd (h.blk.eq k).2 (by decide)),h.jn.stay (lD h.blk (by decide) (by decide) (by decide) hc)
   (fun b e=>by
    obtain⟨cs,k⟩:=h.jn.kind e
    exact hc.same b k.lt (fun a=>by
     have c:b=g:=a;subst c
     exact absurd (h.blk.eq k).2 (by decide)))
   (fun j f b e=>by
    obtain⟨cs,k⟩:=(h.jn.each j f).kind e
    exact hc.same b k.lt (fun a=>by
     have c:b=g:=a;subst c
     exact absurd (h.blk.eq k).2 (by decide))),h.tot,h.len,h.own.chg1 (lD (D:=D) h.blk (by decide) (by decide) (by decide) hc) hc hb (by decide)⟩
theorem SX.keep(h:SX w K D F V g m Q jv T oj n N)(hb:Below w.heap.size w w'):SX w' K D F V g m Q jv T oj n N:=by
 have a:∀ b,K b->w'.heap[b]? = w.heap[b]? := fun b d=>by
  obtain⟨cs,t,k,_⟩:=h.own.kind b d;exact hb.block b k.lt
 exact⟨h.blk.keep hb,h.map.keep hb,h.jn.stay ⟨fun b _ _ _ k _=>hb.block b k.lt,fun b c _ _=>hb.block b c⟩ (fun b e=>a b (h.own.jrn b e)) (fun j f b e=>a b (h.own.bck j f b e)),h.tot,h.len,h.own.same a⟩
theorem sD{a:Addr}(hc:w.cell? a=some (.int .i64 x))(b:w.frozen? a=false)(d:0<=x)(c:x<=4000000000000000000) :
  (callFunc 190 #[.pointer (some a),.int .i64 1]).run Tryz.prog w=.ok (.value (.int .i64 (x+1))) (w.setCell a (.int .i64 (x+1))) :=
 run_call_add Tryz.func190 (by kernel_rfl) (by kernel_rfl) (by kernel_rfl) .i64 (by kernel_rfl) hc b (by
  have e:IntKind.i64.wrap (x+1)=x+1:=by rw[IntKind.wrap_i64];omega
  simp[Op.intArith,e])
theorem DD(hc:w.cell? ⟨g,2,none⟩=some (.int .i64 x))(b:w.frozen? ⟨g,2,none⟩=false)(f:0<=x)(c:x<=4000000000000000000) :
  Calls Tryz.prog 142 #[.pointer (some ⟨g,2,none⟩),.int .i64 1] w fun e w'=>e=.returned (.int .i64 (x+1))/\w'=w.setCell ⟨g,2,none⟩ (.int .i64 (x+1)):=by
 have d:=sD hc b f c;go_enter Tryz.func142,Tryz.ntmps142;go_wp2_with (simp only[d]);go_ret;exact⟨rfl,rfl⟩
theorem ku(hc:w.cell? ⟨g,2,none⟩=some (.int .i64 x))(b:w.frozen? ⟨g,2,none⟩=false)(d:0<=x)(c:x<=4000000000000000000) :
  Calls Tryz.prog 95 #[.pointer (some ⟨g,0,none⟩)] w fun e w'=>e=.returned (.tuple #[])/\w'=w.setCell ⟨g,2,none⟩ (.int .i64 (x+1)):=by
 have u:=DD hc b d c;clear hc b;go_enter Tryz.func95,Tryz.ntmps95;go_wp2_with (go_at_call 142;refine u.mono ?_;rintro e f ⟨rfl,rfl⟩);go_end0;exact⟨rfl,rfl⟩
theorem fP(h:SX w K D F V g m Q jv T oj n N)(hn:n<=4000000000000000000) :
  Calls Tryz.prog 95 #[.pointer (some ⟨g,0,none⟩)] w fun e w'=>e=.returned (.tuple #[])/\SX w' K D F V g m Q jv T oj (n+1) N/\Chg (·=g) w w':=by
 refine(ku (h.blk.cell (i:=2) rfl) (h.blk.free 2) (by omega) (by omega)).mono ?_
 rintro e w' ⟨rfl,rfl⟩
 have hc:Chg (·=g) w (w.setCell ⟨g,2,none⟩ (.int .i64 ((n:Int)+1))):=(Chg.refl (·=g) w).cell (.inl rfl) _;refine⟨rfl,h.top hc ?_,hc⟩;have:=h.blk.setCell (i:=2) (.int .i64 ((n:Int)+1));exact this
theorem oL{c:Nat}{d b:Value}(h:Blk w g [d,.slice ao n c,b] 94) :
  Calls Tryz.prog 143 #[.pointer (some ⟨g,0,none⟩)] w fun e w'=>e=.returned (.int .i64 n)/\w'=w:=by
 have c1:=h.cell (i:=1) rfl;clear h;go_enter Tryz.func143,Tryz.ntmps143;go_wp2;go_ret;exact⟨rfl,rfl⟩
theorem JnA.shape(h:JnA w V D g jv T oj):∃ ao c,jv=.slice ao T.length c:=by
 rcases h.row with⟨_,e,rfl⟩ | ⟨b,c,_,e,_⟩
 ·exact⟨none,0,e⟩
 ·exact⟨_,c,e⟩
theorem y9(h:SX w K D F V g m Q jv T oj n N) :
  Calls Tryz.prog 143 #[.pointer (some ⟨g,0,none⟩)] w fun e w'=>e=.returned (.int .i64 T.length)/\w'=w:=by
 obtain⟨a,c,e⟩:=h.jn.shape;have hb:=h.blk;rw[e] at hb;exact oL hb
theorem snew:Calls Tryz.prog 16 #[] w fun e w'=>∃ g K,e=.returned (.pointer (some ⟨g,0,none⟩))/\SA w' K (fun _=>False) g [] [] 0 0/\(∀ b,K b->w.heap.size<=b)/\Below w.heap.size w w':=by
 have u:=mnew (w:=w);go_enter Tryz.func16,Tryz.ntmps16;go_wp2_with (go_at_call 43;refine u.mono ?_;rintro e c ⟨rfl,M,B⟩);go_ret;have d:=M.lt (b:=w.heap.size) rfl;have al:=ae c (.cells #[.pointer (some ⟨w.heap.size,0,none⟩),.slice none 0 0,.int .i64 0] 94);have bl:=aC c [.pointer (some ⟨w.heap.size,0,none⟩),.slice none 0 0,.int .i64 0] 94;have M2:=M.keep al;refine⟨c.heap.size,fun b=>b=w.heap.size\/b=c.heap.size,rfl,⟨_,fun _=>False,_,_,_,[],none,bl,M2,rfl,⟨.inl ⟨rfl,rfl,rfl⟩,fun _ h=>by simp at h,List.nodup_nil⟩,trivial,by decide,by decide,?_⟩,fun b hb=>by have:=B.size;omega,ax B al⟩;refine⟨.inr rfl,fun b hb=>.inl hb,fun _ h=>h.elim,(fun _ h=>by cases h),(fun _ h=>by simp at h),fun b hb=>?_,(fun h=>by have f:c.heap.size=w.heap.size:=h;omega),fun _ h=>h.elim,(fun _ h=>by cases h),(fun _ h=>by simp at h),fun _ h=>h.elim⟩;rcases hb with rfl | rfl
 ·obtain⟨L,_,A,_⟩:=M2.ex;exact A.kind _ rfl
 ·exact⟨_,_,bl,by decide⟩
theorem jO(h:SX w K D F V g m Q jv T oj n N)(a:By w kv k)(b:N<=100000000) :
  Calls Tryz.prog 170 #[.pointer (some ⟨m,0,none⟩),kv] w fun e w'=>∃ v,e=.returned (.tuple #[v,.bool (look Q.flatten k).isSome])/\OB w' (w.heap.size <= ·) v ((look Q.flatten k).getD [])/\Below w.heap.size w w':=by
 have u:=mget h.map a b;rw[Av h.map.ord,jL h.map.ord] at u;exact u
theorem uf(h:SX w K D F V g m Q jv T oj n N)(b:By w kv k)(d:N<=100000000) :
  Calls Tryz.prog 121 #[.pointer (some ⟨g,0,none⟩),kv] w fun e w'=>e=.returned (.bool (look Q.flatten k).isSome)/\Below w.heap.size w w':=by
 have c0:=h.blk.cell (i:=0) rfl;have u:=jO h b d;obtain⟨f,c,rfl,-⟩:=id b.ex;generalize (look Q.flatten k).isSome=r at *;generalize (look Q.flatten k).getD []=L at *;clear h b;go_enter Tryz.func121,Tryz.ntmps121;go_wp2_with (go_at_call 170;refine u.mono ?_;rintro e j ⟨v,rfl,O,B⟩;obtain⟨a1,c1,rfl,-⟩:=id O.by.ex);go_ret;exact⟨rfl,B⟩
end
end Kv
end
section
namespace Kv
open Go.RowKit Go.Lib Pg
attribute [local go_sem] Oper.semAt_some
section
variable {w w':World}{K D F V D':Nat->Prop}{g m n N o:Nat}{Q Q':List (List KV)}{jv v u kv:Value}{T:List Jr}{oj:Option Nat}{ao:Option Addr}
theorem aB{p:Prop}(h:p):Hid p:=h
theorem SX.vars{S:Nat->Prop}(h:SX w K D F V g m Q jv T oj n N)(f:∀ b,S b->¬ F b)(c:∀ b,S b->∃ cs t,Blk w b cs t/\(t=37\/t=96))(a:∀ b,b < w.heap.size->D b->D' b) :
  SX w (fun b=>K b\/S b) D' F (fun b=>V b\/S b) g m Q jv T oj n N :=
 ⟨h.blk,h.map.mono a,h.jn.mono (fun _=>.inl) a,h.tot,h.len,.inl h.own.top,fun b hb=>.inl (h.own.map b hb),fun b hb=>hb.imp (h.own.var b) id,fun b hb=>.inl (h.own.jrn b hb),fun j d b hb=>.inl (h.own.bck j d b hb),fun b hb=>hb.elim (h.own.kind b) (fun hs=>by
  obtain⟨cs,t,k,e⟩:=c b hs
  exact⟨cs,t,k,by rcases e with e | e<;>subst e<;>decide⟩),h.own.o7,fun b hb=>hb.elim (h.own.sY b) (f b),h.own.qM,h.own.nD,fun b hb=>hb.elim (h.own.vk b) (c b)⟩
theorem SX.mapped{F':Nat->Prop}{N':Nat}(h:SX w K D F V g m Q jv T oj n N)(r:Kv.tot T+Q'.flatten.length<=N')(l:Mp w' F' D' m Q' N')(hF:∀ b,F' b->F b\/w.heap.size<=b)(p:∀ b,D b->D' b)(hc:Chg F w w') :
  SX w' (fun b=>(K b/\¬ F b)\/F' b) D' F' V g m Q' jv T oj n N':=by
 have i:∀ b,K b->b < w.heap.size:=fun b hb=>by obtain⟨cs,t,k,_⟩:=h.own.kind b hb;exact k.lt
 have no:∀ b,K b->¬ F b->¬ F' b:=fun b hb hn hf=>by
  rcases hF b hf with o | o
  ·exact hn o
  ·have:=i b hb;omega
 have hs:kZ V D w w':=⟨fun b _ _ hv k _=>hc.same b k.lt (h.own.sY b hv),fun b q _ k=>hc.same b q (fun f=>by obtain⟨cs,k⟩:=k;exact h.map.noU f cs k)⟩
 have a:JnA w' V D g jv T oj:=h.jn.stay hs (fun b e=>hc.same b (i b (h.own.jrn b e)) (h.own.qM b e)) (fun j a b e=>hc.same b (i b (h.own.bck j a b e)) (h.own.nD j a b e))
 refine⟨h.blk.chg hc h.own.o7,l,a.mono (fun _ h=>h) (fun b _=>p b),r,h.len,.inl ⟨h.own.top,h.own.o7⟩,fun b=>.inr,fun b hb=>.inl ⟨h.own.var b hb,h.own.sY b hb⟩,fun b hb=>.inl ⟨h.own.jrn b hb,h.own.qM b hb⟩,fun j a b hb=>.inl ⟨h.own.bck j a b hb,h.own.nD j a b hb⟩,fun b hb => ?_,no g h.own.top h.own.o7,fun b hb=>no b (h.own.var b hb) (h.own.sY b hb),fun b hb=>no b (h.own.jrn b hb) (h.own.qM b hb),fun j a b hb=>no b (h.own.bck j a b hb) (h.own.nD j a b hb),fun b hv=>by
  obtain⟨cs,t,k,c⟩:=h.own.vk b hv
  exact⟨cs,t,k.same (hs.var b cs t hv k c),c⟩⟩
 have d:∀ b,F' b->∃ cs t,Blk w' b cs t/\t≠5:=fun b hf=>by
  obtain⟨L,_,A,_⟩:=l.ex;exact A.kind b hf
 rcases hb with⟨hb,hf⟩ | hb
 ·obtain⟨cs,t,k,c⟩:=h.own.kind b hb;exact⟨cs,t,k.chg hc hf,c⟩
 ·exact d b hb
theorem DS(c:w.cell? ⟨g,o,none⟩=some v):(loadVar 37 ⟨g,o,none⟩).run Tryz.prog w=.ok v w:=by go_simp
theorem yN(c:w.cell? ⟨g,o,none⟩=some v):(loadVar 86 ⟨g,o,none⟩).run Tryz.prog w=.ok v w:=by go_simp
theorem DU(c:w.cell? ⟨g,o,none⟩=some v):(loadVar 96 ⟨g,o,none⟩).run Tryz.prog w=.ok v w:=by go_simp
theorem ly{a:Act}{o:Oper}(k q:Nat){c:Nat}(b:o.op=.store 96 (.tmp k) (.tmp q))(f:a.eval (.tmp k)=.pointer (some ⟨g,0,none⟩))(d:a.eval (.tmp q)=.slice ao n c)(hc:w.cell? ⟨g,0,none⟩=some u)(hf:w.frozen? ⟨g,0,none⟩=false) :
  (execOp a.eval o).run Tryz.prog w=.ok .skip (w.setCell ⟨g,0,none⟩ (.slice ao n c)):=by
 simp only[execOp,b,f,d];go_simp
def Rds(g m s1 s2:Nat)(jv:Value)(n:Int)(kv:Value)(w:World):Prop:=Blk w s1 [.pointer (some ⟨g,0,none⟩)] 37/\Blk w g [.pointer (some ⟨m,0,none⟩),jv,.int .i64 n] 94/\Blk w s2 [kv] 96
theorem Rds.keep{s1 s2:Nat}{n:Int}(h:Rds g m s1 s2 jv n kv w)(hb:Below w.heap.size w w'):Rds g m s1 s2 jv n kv w':=⟨h.1.keep hb,h.2.1.keep hb,h.2.2.keep hb⟩
end
end Kv
end
section
namespace Kv
open Go.RowKit Go.Lib Pg
attribute [local go_sem] Oper.semAt_some
section
variable {w:World}{D:Nat->Prop}{v:Value}{l:List Int}{cs:List Value}
theorem ie{w':World}{x:Nat}(hc:Chg (·=x) w w')(hx:Blk w x cs 96)(O:OB w D v l):OB w' D v l :=
 ⟨O.oct,O.ex.imp id (by
  rintro⟨b,c,e,f,a⟩;refine⟨b,c,e,f,a.chg hc (fun d=>?_)⟩
  have e2:b=x:=d;subst e2;obtain⟨g,k⟩:=a.kind
  exact absurd (hx.eq k).2 (by decide))⟩
def Rst(w:World)(g:Nat)(k L:List Int)(there:Bool)(e:Ending)(w':World):Prop:=∃ s1 s2 s3 v1 v3,e=.returned (.func (.func (if there then 192 else 191)) #[] (if there then #[.pointer (some ⟨s1,0,none⟩),.pointer (some ⟨s2,0,none⟩),.pointer (some ⟨s3,0,none⟩)] else #[.pointer (some ⟨s1,0,none⟩),.pointer (some ⟨s2,0,none⟩)])) ∧
      w.heap.size≤s1∧w.heap.size≤s2∧w.heap.size≤s3∧Blk w' s1 [.pointer (some ⟨g,0,none⟩)] 37∧Blk w' s2 [v1] 96∧Blk w' s3 [v3] 96∧OB w' (w.heap.size≤·) v1 k∧OB w' (w.heap.size≤·) v3 L∧Below w.heap.size w w'
theorem pr{g m:Nat}{jv kv:Value}{n:Int}{k L:List Int}{there:Bool}(O:Blk w g [.pointer (some ⟨m,0,none⟩),jv,.int .i64 n] 94)(U:By w kv k)(N:k.length<=1000000000)(u:∀ w' kv',Below w.heap.size w w'->By w' kv' k->Calls Tryz.prog 170 #[.pointer (some ⟨m,0,none⟩),kv'] w' fun e w''=>∃ v,e=.returned (.tuple #[v,.bool there])/\OB w'' (w'.heap.size <= ·) v L/\Below w'.heap.size w' w'') :
  Calls Tryz.prog 145 #[.pointer (some ⟨g,0,none⟩),kv] w (Rst w g k L there):=by
 obtain⟨Y,c,rfl,-⟩:=id U.ex;have b1:=aC w [.pointer (some ⟨g,0,none⟩)] 37;have al:=ae w (.cells #[.pointer (some ⟨g,0,none⟩)] 37)
 have V:(w.alloc (.cells #[.pointer (some ⟨g,0,none⟩)] 37)).heap.size=w.heap.size+1:=by simp
 have t1:=cI (U.keep al) N;have J:=aB O;have I:=aB u;have W:=O.lt;clear u O;generalize hln:k.length=t at *
 cases there
 ·go_enter Tryz.func145,Tryz.ntmps145;go_wp2_with (go_at_call 78;refine t1.mono ?_;rintro e s ⟨v1,rfl,p,F⟩;obtain⟨a1,c1,rfl⟩:∃ a1 c1,v1=.slice a1 k.length c1:=(by obtain⟨a1,c1,e,_⟩:=p.by.ex;exact⟨a1,c1,e⟩));rw[hln] at p;have M:=F.size;have A:=ae s (.cells #[.slice a1 t c1] 96)
  have hS:Rds g m w.heap.size s.heap.size jv n (.slice a1 t c1) (s.alloc (.cells #[.slice a1 t c1] 96)).drew:=⟨((b1.keep F).keep A).drew,(((J.out.keep al).keep F).keep A).drew,(aC s [.slice a1 t c1] 96).drew⟩
  have G:Below w.heap.size w (s.alloc (.cells #[.slice a1 t c1] 96)).drew:=ax (ax (ax al F) A) ⟨rfl,rfl,rfl,Nat.le_refl _,fun _ _=>rfl⟩
  have R:s.heap.size < (s.alloc (.cells #[.slice a1 t c1] 96)).drew.heap.size:=by show _ < (s.alloc _).heap.size;simp
  replace p:=((p.mono (D':=(w.heap.size <= ·)) (fun b _ h=>by omega)).keep A).keep (w':=(s.alloc (.cells #[.slice a1 t c1] 96)).drew) ⟨rfl,rfl,rfl,Nat.le_refl _,fun _ _=>rfl⟩;clear t1 A b1 al;clear F;refine bW (S:=Rds g m w.heap.size s.heap.size jv n (.slice a1 t c1)) (by kernel_rfl) hS ?_
  generalize (s.alloc (.cells #[.slice a1 t c1] 96)).drew=X at *;refine aP 0 (some 11) (.pointer (some ⟨g,0,none⟩)) 37 2 w.heap.size 0 (by kernel_rfl) (by kernel_rfl) (by kernel_rfl) (fun w' h=>DS (h.1.cell (i:=0) rfl)) (fun _ _ _ h=>h) hS ?_
  refine ai 1 (some 12) (.pointer (some ⟨g,0,none⟩)) (by kernel_rfl) (fun _ _=>by kernel_rfl) (fun _ _ _ h=>h) hS ?_
  refine ai 2 (some 13) (.pointer (some ⟨g,0,none⟩)) (by kernel_rfl) (fun _ _=>by kernel_rfl) (fun _ _ _ h=>h) hS ?_
  refine aP 3 (some 14) (.pointer (some ⟨m,0,none⟩)) 86 13 g 0 (by kernel_rfl) (by kernel_rfl) (by kernel_rfl) (fun w' h=>yN (h.2.1.cell (i:=0) rfl)) (fun _ _ _ h=>h) hS ?_
  refine aP 4 (some 15) (.slice a1 t c1) 96 5 s.heap.size 0 (by kernel_rfl) (by kernel_rfl) (by kernel_rfl) (fun w' h=>DU (h.2.2.cell (i:=0) rfl)) (fun _ _ _ h=>h) hS ?_
  have D:=ae X (.cells #[.slice none 0 0] 96);refine aK [5,9] (by kernel_rfl) (by simp) (uK 5 (some 16) 170 #[.pointer (some ⟨m,0,none⟩),.slice a1 t c1] (by kernel_rfl) (by kernel_rfl) (I.out _ _ G p.by) ?_ (bI 9 (some 6) (.pointer (some ⟨X.heap.size,0,none⟩)) (X.alloc (.cells #[.slice none 0 0] 96)) (by kernel_rfl) (by kernel_rfl) (hS.keep D) ?_ aW))
  ·rintro K y ⟨v3,rfl,x,z⟩;obtain⟨a3,l,rfl⟩:∃ a3 l,v3=.slice a3 L.length l:=(by obtain⟨a3,l,e,_⟩:=x.by.ex;exact⟨a3,l,e⟩)
   refine⟨_,rfl,hS.keep z,?_⟩;replace hS:=hS.keep z;replace p:=p.keep z;generalize L.length=r at *;refine ai 6 (some 10) (.tuple #[.slice a3 r l,.bool false]) (by kernel_rfl) (fun _ _=>by kernel_rfl) (fun _ _ _ h=>h) hS ?_
   refine ai 7 (some 17) (.slice a3 r l) (by kernel_rfl) (fun _ _=>by kernel_rfl) (fun _ _ _ h=>h) hS ?_
   refine ai 8 (some 18) (.bool false) (by kernel_rfl) (fun _ _=>by kernel_rfl) (fun _ _ _ h=>h) hS ?_
   have C:=ax G z;have T:=z.size;refine aK [9] (by kernel_rfl) (by simp) (bI 9 (some 6) (.pointer (some ⟨y.heap.size,0,none⟩)) (y.alloc (.cells #[.slice none 0 0] 96)) (by kernel_rfl) (by kernel_rfl) (hS.keep (ae y _)) ?_ aW);have H:=ae y (.cells #[.slice none 0 0] 96);replace hS:=hS.keep H;replace p:=p.keep H;replace x:=(x.mono (D':=(w.heap.size <= ·)) (fun b _ h=>by have P:X.heap.size<=b:=h;omega)).keep H;have b3:=aC y [.slice none 0 0] 96;replace C:=ax C H;have f:=b3.cell (i:=0) rfl;have j:=b3.free 0
   have q:Chg (·=y.heap.size) (y.alloc (.cells #[.slice none 0 0] 96)) ((y.alloc (.cells #[.slice none 0 0] 96)).setCell ⟨y.heap.size,0,none⟩ (.slice a3 r l)):=(Chg.refl (·=y.heap.size) (y.alloc (.cells #[.slice none 0 0] 96))).cell (.inl rfl) _
   have o:Rds g m w.heap.size s.heap.size jv n (.slice a1 t c1) ((y.alloc (.cells #[.slice none 0 0] 96)).setCell ⟨y.heap.size,0,none⟩ (.slice a3 r l)):=⟨hS.1.chg q (by omega),hS.2.1.chg q (by omega),hS.2.2.chg q (by omega)⟩
   refine aK [10] (by kernel_rfl) (by simp) (dq 10 ((y.alloc (.cells #[.slice none 0 0] 96)).setCell ⟨y.heap.size,0,none⟩ (.slice a3 r l)) (by kernel_rfl) (ly 6 17 (by kernel_rfl) (by kernel_rfl) (by kernel_rfl) f j) o ?_ aW);refine ai 11 (some 7) (.bool false) (by kernel_rfl) (fun _ _=>by kernel_rfl) (fun _ _ _ h=>h) o ?_
   refine bH (by kernel_rfl) ?_
   simp only[Act.put,List.setIfInBounds_toArray,List.set_cons_zero,List.set_cons_succ];have d:=aB (And.intro (b3.setCell (i:=0) (.slice a3 r l)) (And.intro (ie q b3 x) (And.intro (ie q b3 p) (And.intro o (C.trans (q.below (B:=w.heap.size) (fun b e=>by omega) C.size))))));have g3:=aB (show w.heap.size<=y.heap.size by omega);clear f j q b3 x hS D p C o I G J;generalize (y.alloc (.cells #[.slice none 0 0] 96)).setCell ⟨y.heap.size,0,none⟩ (.slice a3 r l)=Z at *;go_wp2;go_ret;exact⟨_,_,_,_,_,rfl,Nat.le_refl _,by omega,g3.out,d.out.2.2.2.1.1,d.out.2.2.2.1.2.2,d.out.1,d.out.2.2.1,d.out.2.1,d.out.2.2.2.2⟩
  ·replace hS:=hS.keep D;replace p:=p.keep D;have E:=ax G D;have b3:=aC X [.slice none 0 0] 96
   have Q:X.heap.size < (X.alloc (.cells #[.slice none 0 0] 96)).heap.size:=by simp
   refine bN 5 (some 16) 170 #[.pointer (some ⟨m,0,none⟩),.slice a1 t c1] (by kernel_rfl) (by kernel_rfl) (I.out _ _ E p.by) ?_
   rintro K y ⟨v3,rfl,x,z⟩;obtain⟨a3,l,rfl⟩:∃ a3 l,v3=.slice a3 L.length l:=(by obtain⟨a3,l,e,_⟩:=x.by.ex;exact⟨a3,l,e⟩)
   refine⟨_,rfl,hS.keep z,?_⟩;replace hS:=hS.keep z;replace p:=p.keep z;generalize L.length=r at *;refine ai 6 (some 10) (.tuple #[.slice a3 r l,.bool false]) (by kernel_rfl) (fun _ _=>by kernel_rfl) (fun _ _ _ h=>h) hS ?_
   refine ai 7 (some 17) (.slice a3 r l) (by kernel_rfl) (fun _ _=>by kernel_rfl) (fun _ _ _ h=>h) hS ?_
   refine ai 8 (some 18) (.bool false) (by kernel_rfl) (fun _ _=>by kernel_rfl) (fun _ _ _ h=>h) hS ?_
   have C:=ax E z;replace b3:=b3.keep z;replace x:=x.mono (D':=(w.heap.size <= ·)) (fun b _ h=>by have P:(X.alloc (.cells #[.slice none 0 0] 96)).heap.size<=b:=h;omega);have f:=b3.cell (i:=0) rfl;have j:=b3.free 0
   have q:Chg (·=X.heap.size) (y) ((y).setCell ⟨X.heap.size,0,none⟩ (.slice a3 r l)):=(Chg.refl (·=X.heap.size) (y)).cell (.inl rfl) _
   have o:Rds g m w.heap.size s.heap.size jv n (.slice a1 t c1) ((y).setCell ⟨X.heap.size,0,none⟩ (.slice a3 r l)):=⟨hS.1.chg q (by omega),hS.2.1.chg q (by omega),hS.2.2.chg q (by omega)⟩
   refine aK [10] (by kernel_rfl) (by simp) (dq 10 ((y).setCell ⟨X.heap.size,0,none⟩ (.slice a3 r l)) (by kernel_rfl) (ly 6 17 (by kernel_rfl) (by kernel_rfl) (by kernel_rfl) f j) o ?_ aW);refine ai 11 (some 7) (.bool false) (by kernel_rfl) (fun _ _=>by kernel_rfl) (fun _ _ _ h=>h) o ?_
   refine bH (by kernel_rfl) ?_
   simp only[Act.put,List.setIfInBounds_toArray,List.set_cons_zero,List.set_cons_succ];have d:=aB (And.intro (b3.setCell (i:=0) (.slice a3 r l)) (And.intro (ie q b3 x) (And.intro (ie q b3 p) (And.intro o (C.trans (q.below (B:=w.heap.size) (fun b e=>by omega) C.size))))));have g3:=aB (show w.heap.size<=X.heap.size by omega);clear f j q b3 x hS D p C o I G J;generalize (y).setCell ⟨X.heap.size,0,none⟩ (.slice a3 r l)=Z at *;go_wp2;go_ret;exact⟨_,_,_,_,_,rfl,Nat.le_refl _,by omega,g3.out,d.out.2.2.2.1.1,d.out.2.2.2.1.2.2,d.out.1,d.out.2.2.1,d.out.2.1,d.out.2.2.2.2⟩
 ·go_enter Tryz.func145,Tryz.ntmps145;go_wp2_with (go_at_call 78;refine t1.mono ?_;rintro e s ⟨v1,rfl,p,F⟩;obtain⟨a1,c1,rfl⟩:∃ a1 c1,v1=.slice a1 k.length c1:=(by obtain⟨a1,c1,e,_⟩:=p.by.ex;exact⟨a1,c1,e⟩));rw[hln] at p;have M:=F.size;have A:=ae s (.cells #[.slice a1 t c1] 96)
  have hS:Rds g m w.heap.size s.heap.size jv n (.slice a1 t c1) (s.alloc (.cells #[.slice a1 t c1] 96)).drew:=⟨((b1.keep F).keep A).drew,(((J.out.keep al).keep F).keep A).drew,(aC s [.slice a1 t c1] 96).drew⟩
  have G:Below w.heap.size w (s.alloc (.cells #[.slice a1 t c1] 96)).drew:=ax (ax (ax al F) A) ⟨rfl,rfl,rfl,Nat.le_refl _,fun _ _=>rfl⟩
  have R:s.heap.size < (s.alloc (.cells #[.slice a1 t c1] 96)).drew.heap.size:=by show _ < (s.alloc _).heap.size;simp
  replace p:=((p.mono (D':=(w.heap.size <= ·)) (fun b _ h=>by omega)).keep A).keep (w':=(s.alloc (.cells #[.slice a1 t c1] 96)).drew) ⟨rfl,rfl,rfl,Nat.le_refl _,fun _ _=>rfl⟩;clear t1 A b1 al;clear F;refine bW (S:=Rds g m w.heap.size s.heap.size jv n (.slice a1 t c1)) (by kernel_rfl) hS ?_
  generalize (s.alloc (.cells #[.slice a1 t c1] 96)).drew=X at *;refine aP 0 (some 11) (.pointer (some ⟨g,0,none⟩)) 37 2 w.heap.size 0 (by kernel_rfl) (by kernel_rfl) (by kernel_rfl) (fun w' h=>DS (h.1.cell (i:=0) rfl)) (fun _ _ _ h=>h) hS ?_
  refine ai 1 (some 12) (.pointer (some ⟨g,0,none⟩)) (by kernel_rfl) (fun _ _=>by kernel_rfl) (fun _ _ _ h=>h) hS ?_
  refine ai 2 (some 13) (.pointer (some ⟨g,0,none⟩)) (by kernel_rfl) (fun _ _=>by kernel_rfl) (fun _ _ _ h=>h) hS ?_
  refine aP 3 (some 14) (.pointer (some ⟨m,0,none⟩)) 86 13 g 0 (by kernel_rfl) (by kernel_rfl) (by kernel_rfl) (fun w' h=>yN (h.2.1.cell (i:=0) rfl)) (fun _ _ _ h=>h) hS ?_
  refine aP 4 (some 15) (.slice a1 t c1) 96 5 s.heap.size 0 (by kernel_rfl) (by kernel_rfl) (by kernel_rfl) (fun w' h=>DU (h.2.2.cell (i:=0) rfl)) (fun _ _ _ h=>h) hS ?_
  have D:=ae X (.cells #[.slice none 0 0] 96);refine aK [5,9] (by kernel_rfl) (by simp) (uK 5 (some 16) 170 #[.pointer (some ⟨m,0,none⟩),.slice a1 t c1] (by kernel_rfl) (by kernel_rfl) (I.out _ _ G p.by) ?_ (bI 9 (some 6) (.pointer (some ⟨X.heap.size,0,none⟩)) (X.alloc (.cells #[.slice none 0 0] 96)) (by kernel_rfl) (by kernel_rfl) (hS.keep D) ?_ aW))
  ·rintro K y ⟨v3,rfl,x,z⟩;obtain⟨a3,l,rfl⟩:∃ a3 l,v3=.slice a3 L.length l:=(by obtain⟨a3,l,e,_⟩:=x.by.ex;exact⟨a3,l,e⟩)
   refine⟨_,rfl,hS.keep z,?_⟩;replace hS:=hS.keep z;replace p:=p.keep z;generalize L.length=r at *;refine ai 6 (some 10) (.tuple #[.slice a3 r l,.bool true]) (by kernel_rfl) (fun _ _=>by kernel_rfl) (fun _ _ _ h=>h) hS ?_
   refine ai 7 (some 17) (.slice a3 r l) (by kernel_rfl) (fun _ _=>by kernel_rfl) (fun _ _ _ h=>h) hS ?_
   refine ai 8 (some 18) (.bool true) (by kernel_rfl) (fun _ _=>by kernel_rfl) (fun _ _ _ h=>h) hS ?_
   have C:=ax G z;have T:=z.size;refine aK [9] (by kernel_rfl) (by simp) (bI 9 (some 6) (.pointer (some ⟨y.heap.size,0,none⟩)) (y.alloc (.cells #[.slice none 0 0] 96)) (by kernel_rfl) (by kernel_rfl) (hS.keep (ae y _)) ?_ aW);have H:=ae y (.cells #[.slice none 0 0] 96);replace hS:=hS.keep H;replace p:=p.keep H;replace x:=(x.mono (D':=(w.heap.size <= ·)) (fun b _ h=>by have P:X.heap.size<=b:=h;omega)).keep H;have b3:=aC y [.slice none 0 0] 96;replace C:=ax C H;have f:=b3.cell (i:=0) rfl;have j:=b3.free 0
   have q:Chg (·=y.heap.size) (y.alloc (.cells #[.slice none 0 0] 96)) ((y.alloc (.cells #[.slice none 0 0] 96)).setCell ⟨y.heap.size,0,none⟩ (.slice a3 r l)):=(Chg.refl (·=y.heap.size) (y.alloc (.cells #[.slice none 0 0] 96))).cell (.inl rfl) _
   have o:Rds g m w.heap.size s.heap.size jv n (.slice a1 t c1) ((y.alloc (.cells #[.slice none 0 0] 96)).setCell ⟨y.heap.size,0,none⟩ (.slice a3 r l)):=⟨hS.1.chg q (by omega),hS.2.1.chg q (by omega),hS.2.2.chg q (by omega)⟩
   refine aK [10] (by kernel_rfl) (by simp) (dq 10 ((y.alloc (.cells #[.slice none 0 0] 96)).setCell ⟨y.heap.size,0,none⟩ (.slice a3 r l)) (by kernel_rfl) (ly 6 17 (by kernel_rfl) (by kernel_rfl) (by kernel_rfl) f j) o ?_ aW);refine ai 11 (some 7) (.bool true) (by kernel_rfl) (fun _ _=>by kernel_rfl) (fun _ _ _ h=>h) o ?_
   refine bH (by kernel_rfl) ?_
   simp only[Act.put,List.setIfInBounds_toArray,List.set_cons_zero,List.set_cons_succ];have d:=aB (And.intro (b3.setCell (i:=0) (.slice a3 r l)) (And.intro (ie q b3 x) (And.intro (ie q b3 p) (And.intro o (C.trans (q.below (B:=w.heap.size) (fun b e=>by omega) C.size))))));have g3:=aB (show w.heap.size<=y.heap.size by omega);clear f j q b3 x hS D p C o I G J;generalize (y.alloc (.cells #[.slice none 0 0] 96)).setCell ⟨y.heap.size,0,none⟩ (.slice a3 r l)=Z at *;go_wp2;go_ret;exact⟨_,_,_,_,_,rfl,Nat.le_refl _,by omega,g3.out,d.out.2.2.2.1.1,d.out.2.2.2.1.2.2,d.out.1,d.out.2.2.1,d.out.2.1,d.out.2.2.2.2⟩
  ·replace hS:=hS.keep D;replace p:=p.keep D;have E:=ax G D;have b3:=aC X [.slice none 0 0] 96
   have Q:X.heap.size < (X.alloc (.cells #[.slice none 0 0] 96)).heap.size:=by simp
   refine bN 5 (some 16) 170 #[.pointer (some ⟨m,0,none⟩),.slice a1 t c1] (by kernel_rfl) (by kernel_rfl) (I.out _ _ E p.by) ?_
   rintro K y ⟨v3,rfl,x,z⟩;obtain⟨a3,l,rfl⟩:∃ a3 l,v3=.slice a3 L.length l:=(by obtain⟨a3,l,e,_⟩:=x.by.ex;exact⟨a3,l,e⟩)
   refine⟨_,rfl,hS.keep z,?_⟩;replace hS:=hS.keep z;replace p:=p.keep z;generalize L.length=r at *;refine ai 6 (some 10) (.tuple #[.slice a3 r l,.bool true]) (by kernel_rfl) (fun _ _=>by kernel_rfl) (fun _ _ _ h=>h) hS ?_
   refine ai 7 (some 17) (.slice a3 r l) (by kernel_rfl) (fun _ _=>by kernel_rfl) (fun _ _ _ h=>h) hS ?_
   refine ai 8 (some 18) (.bool true) (by kernel_rfl) (fun _ _=>by kernel_rfl) (fun _ _ _ h=>h) hS ?_
   have C:=ax E z;replace b3:=b3.keep z;replace x:=x.mono (D':=(w.heap.size <= ·)) (fun b _ h=>by have P:(X.alloc (.cells #[.slice none 0 0] 96)).heap.size<=b:=h;omega);have f:=b3.cell (i:=0) rfl;have j:=b3.free 0
   have q:Chg (·=X.heap.size) (y) ((y).setCell ⟨X.heap.size,0,none⟩ (.slice a3 r l)):=(Chg.refl (·=X.heap.size) (y)).cell (.inl rfl) _
   have o:Rds g m w.heap.size s.heap.size jv n (.slice a1 t c1) ((y).setCell ⟨X.heap.size,0,none⟩ (.slice a3 r l)):=⟨hS.1.chg q (by omega),hS.2.1.chg q (by omega),hS.2.2.chg q (by omega)⟩
   refine aK [10] (by kernel_rfl) (by simp) (dq 10 ((y).setCell ⟨X.heap.size,0,none⟩ (.slice a3 r l)) (by kernel_rfl) (ly 6 17 (by kernel_rfl) (by kernel_rfl) (by kernel_rfl) f j) o ?_ aW);refine ai 11 (some 7) (.bool true) (by kernel_rfl) (fun _ _=>by kernel_rfl) (fun _ _ _ h=>h) o ?_
   refine bH (by kernel_rfl) ?_
   simp only[Act.put,List.setIfInBounds_toArray,List.set_cons_zero,List.set_cons_succ];have d:=aB (And.intro (b3.setCell (i:=0) (.slice a3 r l)) (And.intro (ie q b3 x) (And.intro (ie q b3 p) (And.intro o (C.trans (q.below (B:=w.heap.size) (fun b e=>by omega) C.size))))));have g3:=aB (show w.heap.size<=X.heap.size by omega);clear f j q b3 x hS D p C o I G J;generalize (y).setCell ⟨X.heap.size,0,none⟩ (.slice a3 r l)=Z at *;go_wp2;go_ret;exact⟨_,_,_,_,_,rfl,Nat.le_refl _,by omega,g3.out,d.out.2.2.2.1.1,d.out.2.2.2.1.2.2,d.out.1,d.out.2.2.1,d.out.2.1,d.out.2.2.2.2⟩
end
end Kv
end
section
namespace Kv
open Go.RowKit Go.Lib Pg
section
variable {w:World} {b n c i:Nat} {xs:List Value}
end
end Kv
end
section
namespace Kv
open Go.RowKit Go.Lib Pg
attribute [local go_sem] Oper.semAt_some
section
variable {w:World}{V D:Nat->Prop}{g:Nat}{j:Jr}{cs':List Value}{bv jv:Value}{l:List Nat}{o:Option Nat}{Q:List (List KV)}{T0:List Jr}
theorem rB(ao:Option Addr)(n c:Nat)(hn:n<=c)(bo:Option Addr)(c':Nat):(Builtin.append_ #[270,270] 270 #[.slice ao n c,.slice bo 0 c']).run Tryz.prog w=.ok (.slice ao n c) w:=by
 obtain⟨i,hi,d,hs,hb⟩:=info_parts KF.inf;have:(Builtin.firstCells i.size 0 (.slice bo 0 c')).run Tryz.prog w=.ok #[] w:=by
  cases bo with
  | none=>rfl
  | some a=>exact run_firstCells_some w i.size 0 a 0 c' [] (by simp) (fun j v b=>by simp at b)
 cases ao with
 | none=>simp[Builtin.append_,run_underlying KF.und,sizeOf,typeInfo,hi,Builtin.lenOf,this,hn]
 | some a=>simp[Builtin.append_,run_underlying KF.und,sizeOf,typeInfo,hi,Builtin.lenOf,this,hn,storeCells]
def Lies(w:World)(bv:Value)(cs:List Value):Prop:=(bv=.slice none 0 0/\cs=[])\/∃ a c,bv=.slice (some a) cs.length c/\∀ i x,cs[i]?=some x->w.cell? (a.add i)=some x
theorem zJ{u:List Und}(H:JrA w V D g j)(hC:iI w V D g u cs')(hb:Lies w bv cs')(hlen:j.U.length+u.length<=1000000000) :
  ∃ v' o' w',(Builtin.append_ #[270,270] 270 #[j.v,bv]).run Tryz.prog w=.ok v' w'/\(∃ ao n c,v'=.slice ao n c)/\JrA w' V D g ⟨j.U ++ u,v',o'⟩/\(∀ b,o'=some b->j.o=some b\/b=w.heap.size)/\Chg (fun b=>j.o=some b) w w':=by
 obtain⟨cs,hc,E⟩:=H;have d:=hC.1;by_cases A:u=[]
 ·subst A
  have m:cs'=[]:=List.eq_nil_of_length_eq_zero (by rw[d];rfl);subst m;obtain⟨t,l,rfl⟩:∃ t l,bv=.slice t 0 l:=by
   rcases hb with⟨e,_⟩ | ⟨a,c,e,_⟩
   ·exact⟨none,0,e⟩
   ·exact⟨some a,c,e⟩
  rcases E with⟨e1,e2,e3⟩ | ⟨b,c,e1,e2,hR⟩
  ·refine⟨_,j.o,w,by rw[e2];exact rB none 0 0 (Nat.le_refl _) t l,⟨none,0,0,rfl⟩,⟨cs,by simpa using hc,.inl ⟨e1,rfl,by simpa using e3⟩⟩,fun b h=>.inl h,Chg.refl _ _⟩
  ·refine⟨_,j.o,w,by rw[e2];exact rB _ _ _ hR.le.1 t l,⟨_,_,_,rfl⟩,⟨cs,by simpa using hc,.inr ⟨b,c,e1,by simp,by simpa using hR⟩⟩,fun b h=>.inl h,Chg.refl _ _⟩
 ·obtain⟨a,ca,rfl,f⟩:∃ a c,bv=.slice (some a) cs'.length c/\∀ i x,cs'[i]?=some x->w.cell? (a.add i)=some x:=by
   rcases hb with⟨_,e⟩ | h
   ·rw[e] at d;exact absurd (List.eq_nil_of_length_eq_zero d.symm) A
   ·exact h
  have s:0 < cs'.length:=by rw[d];exact List.length_pos_iff.2 A
  rcases E with⟨e1,e2,e3⟩ | ⟨b,c,e1,e2,hR⟩
  ·have m:cs=[]:=List.eq_nil_of_length_eq_zero (by rw[hc.1,e3];rfl);subst m;obtain⟨l,W,C,p,z⟩:=e9 (w:=w) KF 270 a cs'.length ca cs' (by simp) f s (by omega) (by omega);refine⟨_,some w.heap.size,W,by rw[e2];exact C,⟨_,_,_,rfl⟩,⟨cs',?_,.inr ⟨_,l,rfl,by rw[e3,d];rfl,by rw[e3];simpa[d] using p⟩⟩,fun b h=>.inr (by cases h;rfl),Chg.of z⟩;rw[e3];exact hC.stay ⟨fun b _ _ _ k _=>z.block b k.lt,fun b J _ _=>z.block b J⟩
  ·obtain⟨F,l,W,C,y,p,q⟩:=dB KF 270 hR a cs'.length ca cs' (by simp) f hC.one (by omega) (by omega);obtain⟨I,B⟩:=hR.kind
   have r:kZ V D w W:=lD B (by decide) (by decide) (by decide) q;refine⟨_,some F,W,by rw[e2];exact C,⟨_,_,_,rfl⟩,⟨cs ++ cs',(hc.stay r).app (hC.stay r),.inr ⟨F,l,rfl,by simp[d],by simpa[d] using p⟩⟩,fun x h=>?_,q.mono (fun x _ e=>by have G:x=b:=e;rw[G,e1])⟩
   cases h;rcases y with e | e
   ·exact .inl (by rw[e1,e])
   ·exact .inr e
theorem r9(T0:List Jr)(j:Jr):tot (T0 ++ [j])=tot T0+j.U.length:=by simp[tot]
theorem ml:(l ++ o.toList).Nodup ↔ l.Nodup∧∀ b,o=some b→b ∉ l:=by
  cases o with
  | none=>simp
  | some x => simp[List.nodup_append]; intro _; constructor
              · intro h hx;exact h x hx rfl
              · intro h a c e;subst e;exact h c
theorem uT(T0:List Jr)(j:Jr):(T0 ++ [j]).filterMap Jr.o=T0.filterMap Jr.o ++ j.o.toList:=by
 rw[List.filterMap_append];congr 1
theorem SX.inner{u:World}{K F:Nat->Prop}{m r:Nat}{j':Jr}{n N N':Nat}(h:SX w K D F V g m Q jv (T0 ++ [j]) (some r) n N)(G:JrA u V D g j')(E:∀ b,j'.o=some b->j.o=some b\/w.heap.size<=b)(I:N<=N')(a:Kv.tot (T0 ++ [j'])+Q.flatten.length<=N')(s:∃ c,jv=.slice (some ⟨r,0,none⟩) (T0 ++ [j]).length c/\Rw u 273 1 r (T0 ++ [j]).length c ((T0 ++ [j']).map Jr.v))(hc:Chg (fun b=>j.o=some b\/b=r) w u) :
  SX u (fun b=>(K b/\¬ j.o=some b)\/j'.o=some b) D F V g m Q jv (T0 ++ [j']) (some r) n N':=by
 have f:j∈T0 ++ [j]:=by simp
 have hx:∀ b cs t,Blk w b cs t->t≠1->t≠273->u.heap[b]? = w.heap[b]? := fun b cs t k q A=>hc.same b k.lt (fun e=>by
  rcases e with e | e
  ·obtain⟨l,p⟩:=(h.jn.each j f).kind e;exact q (k.eq p).2
  ·subst e;obtain⟨l,p⟩:=h.jn.kind rfl
   exact A (k.eq p).2)
 have C:∀ b,(j.o=some b\/b=r)->¬ F b:=fun b e=>e.elim (h.own.nD j f b) (fun e=>by subst e;exact h.own.qM _ rfl)
 have x:kZ V D w u:=⟨fun b cs t _ k a=>hx b cs t k (by rcases a with e | e<;>subst e<;>decide) (by rcases a with e | e<;>subst e<;>decide),fun b _ _ k=>by obtain⟨cs,k⟩:=k;exact hx b cs _ k (by decide) (by decide)⟩
 have y:∀ t∈T0 ++ [j],∀ b,t.o=some b->b < w.heap.size:=fun t a b e=>by obtain⟨cs,k⟩:=(h.jn.each t a).kind e;exact k.lt
 have i:=h.jn.apart;rw[uT,ml] at i;refine⟨⟨by rw[hx g _ _ h.blk (by decide) (by decide)];exact h.blk.blk⟩,h.map.same (fun b hF=>hc.same b (h.map.lt hF) (fun e=>C b e hF)) (fun b _ _ k=>by obtain⟨cs,k⟩:=k;exact hx b cs _ k (by decide) (by decide)) |>.more I,⟨?_,?_,?_⟩,a,by have:=h.len;simp at this ⊢;omega,?_⟩
 ·obtain⟨c,e,z⟩:=s;exact .inr ⟨r,c,rfl,by rw[e];simp,by simpa using z⟩
 ·intro t a;rcases List.mem_append.1 a with d | d
  ·refine(h.jn.each t (List.mem_append_left _ d)).stay x (fun b e => ?_);refine hc.same b (y t (List.mem_append_left _ d) b e) (fun e2 => ?_);rcases e2 with e2 | e2
   ·exact i.2 b e2 (List.mem_filterMap.2 ⟨t,d,e⟩)
   ·subst e2;obtain⟨cs,k⟩:=(h.jn.each t (List.mem_append_left _ d)).kind e;obtain⟨l,p⟩:=h.jn.kind rfl;exact absurd (k.eq p).2 (by decide)
  ·simp at d;subst d;exact G
 ·rw[uT,ml];refine⟨i.1,fun b e hm => ?_⟩;rcases E b e with q | q
  ·exact i.2 b q hm
  ·obtain⟨t,A,H⟩:=List.mem_filterMap.1 hm;have:=y t (List.mem_append_left _ A) b H;omega
 ·have B:∀ b cs t,Blk w b cs t->t≠1->¬ j.o=some b:=fun b cs t k q e=>by
   obtain⟨l,p⟩:=(h.jn.each j f).kind e;exact q (k.eq p).2
  refine⟨.inl ⟨h.own.top,B g _ _ h.blk (by decide)⟩,fun b hb=>.inl ⟨h.own.map b hb,fun e=>h.own.nD j f b e hb⟩,fun b hb => ?_,fun b hb => ?_,fun t a b e => ?_,fun b hb => ?_,h.own.o7,h.own.sY,h.own.qM,fun t a b e => ?_,fun b hv=>by
   obtain⟨cs,t,k,a⟩:=h.own.vk b hv
   exact⟨cs,t,k.same (x.var b cs t hv k a),a⟩⟩
  ·obtain⟨cs,t,k,a⟩:=h.own.vk b hb;exact .inl ⟨h.own.var b hb,B b cs t k (by rcases a with e | e<;>subst e<;>decide)⟩
  ·cases hb;obtain⟨l,p⟩:=h.jn.kind rfl;exact .inl ⟨h.own.jrn _ rfl,B _ _ _ p (by decide)⟩
  ·rcases List.mem_append.1 a with d | d
   ·exact .inl ⟨h.own.bck t (List.mem_append_left _ d) b e,fun e2=>i.2 b e2 (List.mem_filterMap.2 ⟨t,d,e⟩)⟩
   ·simp at d;subst d;exact .inr e
  ·rcases hb with⟨hb,hn⟩ | hb
   ·by_cases e:b=r
    ·subst e;obtain⟨c,_,z⟩:=s;obtain⟨cs,k⟩:=z.kind;exact⟨cs,_,k,by decide⟩
    ·obtain⟨cs,t,k,a⟩:=h.own.kind b hb;exact⟨cs,t,k.chg hc (fun e2=>e2.elim hn e),a⟩
   ·obtain⟨cs,k⟩:=G.kind hb;exact⟨cs,_,k,by decide⟩
  ·rcases List.mem_append.1 a with d | d
   ·exact h.own.nD t (List.mem_append_left _ d) b e
   ·simp at d; subst d;rcases E b e with q | q
    ·exact h.own.nD j f b q
    ·intro hF;have:=h.map.lt hF;omega
end
end Kv
end
section
namespace Kv
open Go.RowKit Go.Lib Pg
attribute [local go_sem] Oper.semAt_some
section
variable {w:World}{V D:Nat->Prop}{g:Nat}{jv bv:Value}{T0:List Jr}{j:Jr}{oj:Option Nat}{Q:List (List KV)}{cs':List Value}
theorem wP(T0:List Jr)(j j':Jr):((T0 ++ [j]).map Jr.v).set T0.length j'.v=(T0 ++ [j']).map Jr.v:=by
 rw[List.map_append,List.map_append,List.set_append_right _ _ (by simp)];simp
theorem JnA.last(h:JnA w V D g jv (T0 ++ [j]) oj):∃ jb c,oj=some jb/\jv=.slice (some ⟨jb,0,none⟩) (T0.length+1) c/\Rw w 273 1 jb (T0.length+1) c ((T0 ++ [j]).map Jr.v):=by
 rcases h.row with⟨_,_,e⟩ | ⟨b,c,e1,e2,hR⟩
 ·exact absurd e (by simp)
 ·exact⟨b,c,e1,by rw[e2];simp,by simpa using hR⟩
theorem xnote{K F:Nat->Prop}{m:Nat}{n N:Nat}{s:List Und}(h:SX w K D F V g m Q jv (T0 ++ [j]) oj n N)(hC:iI w V D g s cs')(hb:Lies w bv cs'){N':Nat}(J:N<=N')(E:Kv.tot (T0 ++ [j])+s.length+Q.flatten.length<=N')(hN3:N'<=1000000000) :
  Calls Tryz.prog 144 #[.pointer (some ⟨g,0,none⟩),bv] w fun e w'=>e=.returned (.tuple #[])/\∃ K' j',j'.U=j.U ++ s/\SX w' K' D F V g m Q jv (T0 ++ [j']) oj n N'/\(∀ b,K' b->K b\/w.heap.size<=b)/\Chg K w w':=by
 have hlen:j.U.length+s.length<=1000000000:=by rw[r9] at E;omega
 obtain⟨f,c,rfl,rfl,A⟩:=h.jn.last;obtain⟨v',Y,B,hr,⟨t,r,u,rfl⟩,X,I,z⟩:=zJ (h.jn.each j (by simp)) hC hb hlen
 have l:j∈T0 ++ [j]:=by simp
 have ud:=oL h.blk;have c1:=h.blk.cell (i:=1) rfl;have x:=A.cell (i:=T0.length) (v:=j.v) (by simp)
 have G:¬ j.o=some f:=fun e=>by
  obtain⟨cs,k⟩:=(h.jn.each j l).kind e;obtain⟨cs',P⟩:=A.kind;exact absurd (k.eq P).2 (by decide)
 have d:=A.chg z G;have p:=d.cell (i:=T0.length) (v:=j.v) (by simp);have H:=d.free T0.length;have hle:=A.le
 have M:∃ a1 n1 c1,j.v=.slice a1 n1 c1:=by
  obtain⟨cs,_,⟨_,e,_⟩ | ⟨b,c,_,e,_⟩⟩:=h.jn.each j l
  ·exact⟨_,_,_,e⟩
  ·exact⟨_,_,_,e⟩
 obtain⟨a1,n1,c2,L⟩:=M;rw[L] at x p hr
 have W:∃ a2 Z c3,bv=.slice a2 Z c3:=by
  rcases hb with⟨e,_⟩ | ⟨a,c,e,_⟩
  ·exact⟨_,_,_,e⟩
  ·exact⟨_,_,_,e⟩
 obtain⟨a2,Z,c3,T⟩:=W;subst T
 have hg0:(0:Int) < (T0.length:Int)+1:=by omega
 have hg1:(T0.length:Int)<=16:=by have:=h.len;simp at this;omega
 have O:Hid (∃ K' j',j'.U=j.U ++ s/\SX (B.setCell ⟨f,T0.length,none⟩ (.slice t r u)) K' D F V g m Q (.slice (some ⟨f,0,none⟩) (T0.length+1) c) (T0 ++ [j']) (some f) n N'/\(∀ b,K' b->K b\/w.heap.size<=b)/\Chg K w (B.setCell ⟨f,T0.length,none⟩ (.slice t r u))):=by
  have C:Chg (fun b=>j.o=some b\/b=f) w (B.setCell ⟨f,T0.length,none⟩ (.slice t r u)):=(z.mono (fun b _ e=>.inl e)).cell (.inl (.inr rfl)) _;obtain⟨cs,kj⟩:=d.kind
  have R:JrA (B.setCell ⟨f,T0.length,none⟩ (.slice t r u)) V D g ⟨j.U ++ s,.slice t r u,Y⟩:=X.stay (lD kj (by decide) (by decide) (by decide) ((Chg.refl (· = f) B).cell (.inl rfl) _)) (fun b e=>by
   have S:b≠f:=fun e2=>by
    subst e2;obtain⟨cs',P⟩:=X.kind e;exact absurd (P.eq kj).2 (by decide)
   exact Below.heap_setCell _ _ _ _ S)
  have hS:=h.inner (j':=⟨j.U ++ s,.slice t r u,Y⟩) R (fun b e=>(I b e).imp id (fun e=>by omega)) (N':=N') J (by rw[r9] at E ⊢; simp only[List.length_append]; omega) ⟨c,by simp,by
   have:=d.set T0.length (by simp) (.slice t r u);rw[wP T0 j ⟨j.U ++ s,.slice t r u,Y⟩] at this
   simpa using this⟩ C
  refine⟨_,_,rfl,hS,fun b hb=>?_,C.mono (fun b _ e=>?_)⟩
  ·rcases hb with hb | hb
   ·exact .inl hb.1
   ·rcases I b hb with e | e
    ·exact .inl (h.own.bck j l b e)
    ·exact .inr (by omega)
  ·rcases e with e | e
   ·exact h.own.bck j l b e
   ·subst e;exact h.own.jrn _ rfl
 clear h hC hb A d X I z G hlen;generalize T0.length=q at *;go_enter Tryz.func144,Tryz.ntmps144;go_wp2_with first
  | (go_at_call 143;go_must (refine ud.mono ?_);rintro e y ⟨rfl,hy⟩;replace hy:=hy.symm;subst hy)
  | (at_builtin;refine Lib.wpList_append_run _ rfl _ _ _ _ rfl _ _ rfl rfl _ _ hr ?_)
 go_end0;exact⟨rfl,O.out⟩
end
end Kv
end
section
namespace Kv
open Go.RowKit Go.Lib Pg
attribute [local go_sem] Oper.semAt_some
section
variable {w:World}{K D F V:Nat->Prop}{g m n N:Nat}{Q:List (List KV)}{jv kv:Value}{T T0:List Jr}{oj:Option Nat}{k:List Int}
theorem wK(h:SX w K D F V g m Q jv T oj n N)(p:By w kv k)(a:k.length<=1000000000)(j:N<=100000000) :
  Calls Tryz.prog 145 #[.pointer (some ⟨g,0,none⟩),kv] w fun e w'=>∃ (c:Value) (S:Nat->Prop),e=.returned c/\(∃ f cap,c=.func (.func f) #[] cap)/\SX w' (fun b=>K b\/S b) (fun b=>D b\/w.heap.size<=b) F (fun b=>V b\/S b) g m Q jv T oj n N/\nB w' (fun b=>V b\/S b) (fun b=>D b\/w.heap.size<=b) g (k,look Q.flatten k) c/\(∀ b,S b->w.heap.size<=b)/\Below w.heap.size w w':=by
 refine(pr (there:=(look Q.flatten k).isSome) (L:=(look Q.flatten k).getD []) h.blk p a (fun w' r q l=>(jO (h.keep q) l j).mono fun e i h=>h)).mono ?_
 rintro e w' ⟨s1,s2,s3,v1,v3,rfl,g1,g2,g3,b1,b2,b3,o,d,B⟩
 have hX:=(h.keep B).vars (S:=fun b=>b=s1\/b=s2\/b=s3) (fun b hb hF=>by have:=h.map.lt hF; rcases hb with rfl | rfl | rfl<;>omega) (fun b hb=>by
  rcases hb with rfl | rfl | rfl
  ·exact⟨_,_,b1,.inl rfl⟩
  ·exact⟨_,_,b2,.inr rfl⟩
  ·exact⟨_,_,b3,.inr rfl⟩) (D':=fun b=>D b\/w.heap.size<=b) (fun _ _ h=>.inl h)
 refine⟨_,fun b=>b=s1\/b=s2\/b=s3,rfl,⟨_,_,rfl⟩,hX,⟨⟨a,fun x hx=>?_⟩,s1,s2,v1,.inr (.inl rfl),.inr (.inr (.inl rfl)),b1,b2,o.mono (fun _ _ h=>.inr h),?_⟩,(fun b hb=>by rcases hb with rfl | rfl | rfl<;>assumption),B⟩
 ·exact(h.map.small _ (jG hx)).2
 ·cases hl:look Q.flatten k with
  | none=>exact .inl ⟨rfl,by simp⟩
  | some x=>exact .inr ⟨s3,v3,x,.inr (.inr (.inr rfl)),b3,by rw[hl] at d;exact d.mono (fun _ _ h=>.inr h),rfl,by simp⟩
theorem l3(h:SX w K D F V g m Q jv [] oj n N) :
  Calls Tryz.prog 96 #[.pointer (some ⟨g,0,none⟩),kv] w fun e w'=>e=.returned (.tuple #[])/\w'=w:=by
 have b:=y9 h;clear h;go_enter Tryz.func96,Tryz.ntmps96;go_wp2_with (go_at_call 143;go_must (refine b.mono ?_);rintro e y ⟨rfl,hy⟩;replace hy:=hy.symm;subst hy);go_end0;exact⟨rfl,rfl⟩
theorem oD{j:Jr}(h:SX w K D F V g m Q jv (T0 ++ [j]) oj n N)(p:By w kv k)(o:k.length<=1000000000)(I:N<=100000000) :
  Calls Tryz.prog 96 #[.pointer (some ⟨g,0,none⟩),kv] w fun e w'=>e=.returned (.tuple #[])/\∃ K' V' j',j'.U=j.U ++ [(k,look Q.flatten k)]/\SX w' K' (fun b=>D b\/w.heap.size<=b) F V' g m Q jv (T0 ++ [j']) oj n (N+1)/\(∀ b,K' b->K b\/w.heap.size<=b)/\Chg K w w':=by
 have B:=y9 h;have s:=wK h p o I;obtain⟨J,c,rfl,-⟩:=id p.ex;generalize k.length=kn at *
 have z:(0:Int) < ((T0 ++ [j]).length:Int):=by simp
 have L:Hid (∀ b,K b->b < w.heap.size):=fun b hb=>by obtain⟨cs,t,k,_⟩:=h.own.kind b hb;exact k.lt
 clear h p;generalize (T0 ++ [j]).length=tl at *;go_enter Tryz.func96,Tryz.ntmps96;go_wp2_with first
  | (go_at_call 143;go_must (refine B.mono ?_);rintro e y ⟨rfl,hy⟩;replace hy:=hy.symm;subst hy)
  | (go_at_call 145;go_must (refine s.mono ?_);rintro e d ⟨cl,S,rfl,⟨f,cap,rfl⟩,q,v,hS,A⟩;have al:=ae d (.cells #[.func (.func f) #[] cap] 1);have bl:=aC d [.func (.func f) #[] cap] 1;have C:iI (d.alloc (.cells #[.func (.func f) #[] cap] 1)) (fun b=>V b\/S b) (fun b=>D b\/w.heap.size<=b) g [(k,look Q.flatten k)] [.func (.func f) #[] cap]:=⟨rfl,(fun i u c hu hc=>by (have hi:i=0:=(by have:=(List.getElem?_eq_some_iff.1 hu).1;simp at this;omega));subst hi;simp at hu hc;subst hu;subst hc;exact v.stay ⟨fun b _ _ _ k _=>al.block b k.lt,fun b z _ _=>al.block b z⟩)⟩;have E:Lies (d.alloc (.cells #[.func (.func f) #[] cap] 1)) (.slice (some ⟨d.heap.size,0,none⟩) 1 1) [.func (.func f) #[] cap]:=.inr ⟨_,1,rfl,(fun i x hx=>by (have hi:i=0:=(by have:=(List.getElem?_eq_some_iff.1 hx).1;simp at this;omega));subst hi;simp at hx;subst hx;exact bl.cell (i:=0) rfl)⟩;have un:=xnote (N':=N+1) (q.keep al) C E (by omega) (by have:=q.tot;simp only[List.length_cons,List.length_nil];omega) (by omega);clear q v C E bl B s)
  | (go_at_call 144;go_must (refine un.mono ?_);rintro e M ⟨rfl,K',j',l,H,r,hC⟩;clear un)
 go_end0;refine⟨rfl,K',_,j',l,H,fun b hb=>?_,?_⟩
 ·rcases r b hb with(h1 | h1) | h1
  ·exact .inl h1
  ·exact .inr (hS b h1)
  ·exact .inr (by have:=A.size;have:=al.size;omega)
 ·have G:=ax A al;exact(Chg.of (F:=K) G).trans hC (fun b hb e=>e.elim id (fun e=>by have:=hS b e;omega))
def BK(w:World)(K:Nat->Prop)(kv:Value)(k:List Int):Prop:=∀ w',Chg K w w'->By w' kv k
theorem BK.by(h:BK w K kv k):By w kv k:=h w (Chg.refl _ _)
theorem BK.shape(h:BK w K kv k):∃ ao c,kv=.slice ao k.length c:=by
 obtain⟨ao,c,e,_⟩:=h.by.ex
 exact⟨ao,c,e⟩
theorem ff{w1 w2:World}(h:Chg K w w1)(h':Chg K w1 w2):Chg K w w2:=h.trans h' (fun _ _ h=>h)
end
end Kv
end
section
namespace Kv
open Go.RowKit Go.Lib Pg
attribute [local go_sem] Oper.semAt_some
section
variable {T0 T:List Jr}{j:Jr}{W:List aD}{E E':aD}{w w':World}{K D F V:Nat->Prop}{g m n N:Nat}{Q:List (List KV)}{jv kv vv:Value}{oj:Option Nat}{k v:List Int}
theorem oq{j':Jr}{u:Und}(h:jV ((T0 ++ [j]).reverse.map Jr.U) W E)(a:j'.U=j.U ++ [u])(hu:Aw E' u=E):jV ((T0 ++ [j']).reverse.map Jr.U) W E':=by
 rw[List.reverse_append] at h ⊢;simp only[List.reverse_cons,List.reverse_nil,List.nil_append,List.cons_append,List.map_cons] at h ⊢
 cases W with
 | nil=>exact h.elim
 | cons e W=>exact⟨by rw[a,uz,hu];exact h.1,h.2⟩
theorem ra(h:jV [] W E):jV [] W E':=by
 cases W with
 | nil=>trivial
 | cons e W=>exact h.elim
def iU(k v:List Int):Int:=if k.length=0\/64 < k.length then 60 else if 4096 < v.length then 61 else 0
def Ends(w:World)(K D:Nat->Prop)(g:Nat)(E:aD)(W:List aD)(n N:Nat)(r:Value)(e:Ending)(w':World):Prop:=e=.returned r/\∃ K',SA w' K' (fun b=>D b\/w.heap.size<=b) g E W n N/\(∀ b,K' b->K b\/w.heap.size<=b)/\Chg K w w'
theorem SX.kg(h:SX w K D F V g m Q jv T oj n N)(hc:Chg (·=g) w w'):Chg K w w':=hc.mono (fun b _ e=>by have e':b=g:=e;subst e';exact h.own.top)
theorem wo(h:SA w K D g E W n N)(f:BK w K kv k)(hv:BK w K vv v)(hn:n<=4000000000000000000)(B:k.length=0) :
  Calls Tryz.prog 64 #[.pointer (some ⟨g,0,none⟩),kv,vv] w (Ends w K D g E W (n+1) (N+2) (.int .i64 60)):=by
 obtain⟨F,V,m,Q,y,T,x,hX,j,i⟩:=h.open;obtain⟨s,c,rfl⟩:=f.shape;obtain⟨t,d,rfl⟩:=hv.shape;have u:=fP hX hn;have q:=aB hX;have r:=aB j;have l:=aB i;generalize k.length=kn at *;generalize v.length=A at *
 have g0:(kn:Int)=0:=by omega
 clear hX j i h f hv;go_enter Tryz.func64,Tryz.ntmps64;go_wp2_with (go_at_call 95;go_must (refine u.mono ?_);rintro e z ⟨rfl,o,p⟩);go_ret;exact⟨rfl,K,(o.shut r.out l.out).more (by omega) |>.mono (fun _ _ h=>.inl h),fun b h=>.inl h,q.out.kg p⟩
theorem xj(h:SA w K D g E W n N)(f:BK w K kv k)(hv:BK w K vv v)(hn:n<=4000000000000000000)(C:¬ k.length=0)(y:64 < k.length) :
  Calls Tryz.prog 64 #[.pointer (some ⟨g,0,none⟩),kv,vv] w (Ends w K D g E W (n+1) (N+2) (.int .i64 60)):=by
 obtain⟨F,V,m,Q,z,T,x,hX,j,i⟩:=h.open;obtain⟨s,c,rfl⟩:=f.shape;obtain⟨t,d,rfl⟩:=hv.shape;have u:=fP hX hn;have q:=aB hX;have r:=aB j;have l:=aB i;generalize k.length=kn at *;generalize v.length=B at *
 have g0:((kn:Int)=0)=False:=eq_false (by omega)
 have g1:(64:Int) < kn:=by omega
 clear hX j i h f hv;go_enter Tryz.func64,Tryz.ntmps64;go_wp2_with (go_at_call 95;go_must (refine u.mono ?_);rintro e A ⟨rfl,o,p⟩);go_ret;exact⟨rfl,K,(o.shut r.out l.out).more (by omega) |>.mono (fun _ _ h=>.inl h),fun b h=>.inl h,q.out.kg p⟩
theorem yP(h:SA w K D g E W n N)(f:BK w K kv k)(hv:BK w K vv v)(hn:n<=4000000000000000000)(G:¬ k.length=0)(z:¬ 64 < k.length)(C:4096 < v.length) :
  Calls Tryz.prog 64 #[.pointer (some ⟨g,0,none⟩),kv,vv] w (Ends w K D g E W (n+1) (N+2) (.int .i64 61)):=by
 obtain⟨F,V,m,Q,A,T,y,hX,j,i⟩:=h.open;obtain⟨t,c,rfl⟩:=f.shape;obtain⟨x,d,rfl⟩:=hv.shape;have u:=fP hX hn;have r:=aB hX;have s:=aB j;have l:=aB i;generalize k.length=kn at *;generalize v.length=q at *
 have g0:((kn:Int)=0)=False:=eq_false (by omega)
 have g1:((64:Int) < kn)=False:=eq_false (by omega)
 have g2:(4096:Int) < q:=by omega
 clear hX j i h f hv;go_enter Tryz.func64,Tryz.ntmps64;go_wp2_with (go_at_call 95;go_must (refine u.mono ?_);rintro e B ⟨rfl,o,p⟩);go_ret;exact⟨rfl,K,(o.shut s.out l.out).more (by omega) |>.mono (fun _ _ h=>.inl h),fun b h=>.inl h,r.out.kg p⟩
theorem Ae(hX:SX w K D F V g m Q jv [] oj n N)(A:jV ([].reverse.map Jr.U) W Q.flatten)(q:BK w K kv k)(hv:BK w K vv v)(hn:n<=4000000000000000000)(x:N+2<=100000000)(M:¬ k.length=0)(l:¬ 64 < k.length)(H:¬ 4096 < v.length) :
  Calls Tryz.prog 64 #[.pointer (some ⟨g,0,none⟩),kv,vv] w (Ends w K D g (put Q.flatten k v) W (n+1) (N+2) (.int .i64 0)):=by
 obtain⟨S,c,rfl⟩:=q.shape;obtain⟨O,d,rfl⟩:=hv.shape;have u:=fP hX hn;have r:=aB hX;have G:=aB A;have C:=aB q;have B:=aB hv;have p:=aB (show k.length<=64 by omega);have o:=aB (show v.length<=4096 by omega);replace x:N<=99999998:=by omega
 have J:=x;replace x:N<=100000000:=by omega
 have g0:((k.length:Int)=0)=False:=eq_false (by omega)
 have g1:((64:Int) < k.length)=False:=eq_false (by omega)
 have g2:¬ ((4096:Int) < v.length):=by omega
 clear hX A q hv;obtain⟨kn,s⟩:∃ kn,Hid (k.length=kn):=⟨_,rfl⟩
 obtain⟨z,t⟩:∃ z,Hid (v.length=z):=⟨_,rfl⟩
 rw[s.out] at g0 g1 C M l ⊢;rw[t.out] at g2 B H ⊢;go_enter Tryz.func64,Tryz.ntmps64;go_wp2_with first
  | (go_at_call 95;go_must (refine u.mono ?_);rintro e P ⟨rfl,f,j⟩)
  | (go_at_call 96;go_must (refine(l3 f).mono ?_);rintro e y ⟨rfl,hy⟩;replace hy:=hy.symm;subst hy;have c0:=f.blk.cell (i:=0) rfl;have us:=mset f.map (C.out _ (r.out.kg j)) (B.out _ (r.out.kg j)) (by have:=p.out;omega) (by have:=o.out;omega) (by omega))
  | (go_at_call 97;go_must (refine us.mono ?_);rintro e R ⟨rfl,T,I,hF,hC⟩)
 go_ret;have L:=f.mapped (N':=N+1) (by have:=f.tot;have:=uS f.map.ord.flat k v;rw[iF f.map.ord];omega) I hF (fun _ h=>.inl h) hC;refine⟨rfl,_,((L.shut (E:=put Q.flatten k v) (W:=W) (iF f.map.ord k v) (ra G.out)).more (by omega)).mono (fun b _ hb=>?_),fun b hb=>?_,?_⟩
 ·rcases hb with hb | hb
  ·exact .inl hb
  ·exact .inr (by have:=j.size;omega)
 ·rcases hb with⟨hb,_⟩ | hb
  ·exact .inl hb
  ·rcases hF b hb with l | l
   ·exact .inl (f.own.map b l)
   ·exact .inr (by have:=j.size;omega)
 ·exact ff (r.out.kg j) (hC.mono (fun b _ h=>f.own.map b h))
theorem xX(hX:SX w K D F V g m Q jv (T0 ++ [j]) oj n N)(H:jV ((T0 ++ [j]).reverse.map Jr.U) W Q.flatten)(y:BK w K kv k)(hv:BK w K vv v)(hn:n<=4000000000000000000)(r:N+2<=100000000)(T:¬ k.length=0)(s:¬ 64 < k.length)(L:¬ 4096 < v.length) :
  Calls Tryz.prog 64 #[.pointer (some ⟨g,0,none⟩),kv,vv] w (Ends w K D g (put Q.flatten k v) W (n+1) (N+2) (.int .i64 0)):=by
 obtain⟨ao,c,rfl⟩:=y.shape;obtain⟨X,d,rfl⟩:=hv.shape;have u:=fP hX hn;have z:=aB hX;have J:=aB H;have A:=aB y;have I:=aB hv;have p:=aB (show k.length<=64 by omega);have t:=aB (show v.length<=4096 by omega);replace r:N<=99999998:=by omega
 have R:=r;replace r:N<=100000000:=by omega
 have g0:((k.length:Int)=0)=False:=eq_false (by omega)
 have g1:((64:Int) < k.length)=False:=eq_false (by omega)
 have g2:¬ ((4096:Int) < v.length):=by omega
 clear hX H y hv;obtain⟨kn,B⟩:∃ kn,Hid (k.length=kn):=⟨_,rfl⟩
 obtain⟨G,C⟩:∃ G,Hid (v.length=G):=⟨_,rfl⟩
 rw[B.out] at g0 g1 A T s ⊢;rw[C.out] at g2 I L ⊢;go_enter Tryz.func64,Tryz.ntmps64;go_wp2_with first
  | (go_at_call 95;go_must (refine u.mono ?_);rintro e Y ⟨rfl,O,o⟩)
  | (go_at_call 96;go_must (refine(oD O (A.out _ (z.out.kg o)) (by have:=p.out;omega) r).mono ?_);rintro e w2 ⟨rfl,K2,V2,Z,x,f,l,M⟩;have q:=ff (z.out.kg o) M;have c0:=f.blk.cell (i:=0) rfl;have us:=mset f.map (A.out _ q) (I.out _ q) (by have:=p.out;omega) (by have:=t.out;omega) (by omega))
  | (go_at_call 97;go_must (refine us.mono ?_);rintro e w3 ⟨rfl,F',P,hF,hC⟩)
 go_ret;have S:=f.mapped (N':=N+1+1) (by have:=f.tot;have:=uS f.map.ord.flat k v;rw[iF f.map.ord];omega) P hF (fun _ h=>.inl h) hC;refine⟨rfl,_,((S.shut (E:=put Q.flatten k v) (W:=W) (iF f.map.ord k v) (oq J.out x (AU z.out.map.ord.flat k v))).more (by omega)).mono (fun b _ hb=>?_),fun b hb=>?_,?_⟩
 ·rcases hb with(hb | hb) | hb
  ·exact .inl hb
  ·exact .inr (by have:=o.size;omega)
  ·exact .inr (by have:=q.size;omega)
 ·rcases hb with⟨hb,_⟩ | hb
  ·exact(l b hb).imp id (fun h=>by have:=o.size;omega)
  ·rcases hF b hb with s | s
   ·exact(l b (f.own.map b s)).imp id (fun h=>by have:=o.size;omega)
   ·exact .inr (by have:=q.size;omega)
 ·exact q.trans hC (fun b hb h=>(l b (f.own.map b h)).elim id (fun h=>by have:=o.size;omega))
theorem sset(h:SA w K D g E W n N)(c:BK w K kv k)(hv:BK w K vv v)(hn:n<=4000000000000000000)(i:N+2<=100000000) :
  Calls Tryz.prog 64 #[.pointer (some ⟨g,0,none⟩),kv,vv] w (Ends w K D g (if iU k v=0 then put E k v else E) W (n+1) (N+2) (.int .i64 (iU k v))):=by
 by_cases a:k.length=0
 ·have e:iU k v=60:=by unfold iU; rw[if_pos (.inl a)]
  rw[e,if_neg (by decide)];exact wo h c hv hn a
 ·by_cases b:64 < k.length
  ·have e:iU k v=60:=by unfold iU; rw[if_pos (.inr b)]
   rw[e,if_neg (by decide)];exact xj h c hv hn a b
  ·by_cases d:4096 < v.length
   ·have e:iU k v=61:=by unfold iU; rw[if_neg (by omega),if_pos d]
    rw[e,if_neg (by decide)];exact yP h c hv hn a b d
   ·have e:iU k v=0:=by unfold iU; rw[if_neg (by omega),if_neg d]
    rw[e,if_pos rfl];obtain⟨F,V,m,Q,p,T,l,hX,rfl,f⟩:=h.open;rcases List.eq_nil_or_concat T with rfl | ⟨o,j,rfl⟩
    ·exact Ae hX f c hv hn i a b d
    ·rw[List.concat_eq_append] at hX f;exact xX hX f c hv hn i a b d
end
end Kv
end
end Go.Proofs.YthfepflplbahkaaGreatDoor
