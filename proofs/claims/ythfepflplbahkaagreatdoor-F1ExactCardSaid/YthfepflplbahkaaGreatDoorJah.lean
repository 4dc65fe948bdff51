import Derived.Test.YthfepflplbahkaaGreatDoorJag
import Derived.Laws.LoneSync
set_option maxRecDepth 100000
set_option maxHeartbeats 8000000
namespace Go.Proofs.YthfepflplbahkaaGreatDoor
section
namespace Kv
open Pg
section
variable {k x v:List Int}{Q:List (List KV)}
abbrev aE:=List KV
def eP(E:aE):Prop:=E.Pairwise fun x y=>Lt x.1 y.1
def look(E:aE)(k:List Int):Option (List Int):=(E.find? (fun x=>decide (x.1=k))).map Prod.snd
def put(E:aE)(k v:List Int):aE:=E.filter (fun x=>decide (Lt x.1 k)) ++ (k,v) :: E.filter (fun x=>decide (Lt k x.1))
def rem(E:aE)(k:List Int):aE:=E.filter (fun x=>decide (¬ x.1=k))
theorem ec{α:Type}{p:α->Bool}{l:List α}(h:∀ x∈l,p x=true):l.filter p=l:=List.filter_eq_self.2 h
theorem iB{α:Type}{p:α->Bool}{l:List α}(h:∀ x∈l,p x=false):l.filter p=[]:=List.filter_eq_nil_iff.2 (fun x hx=>by rw[h x hx]; simp)
structure Cut(k:List Int)(X Y:aE):Prop where
 lo:∀ x∈X,Lt x.1 k
 hi:∀ y∈Y,Lt k y.1
theorem Cut.nx{X Y:aE}(h:Cut k X Y):∀ x∈X,¬ x.1=k:=fun x hx e=>by have:=h.lo x hx; rw[e] at this; exact lt_irrefl _ this
theorem Cut.ny{X Y:aE}(h:Cut k X Y):∀ x∈Y,¬ x.1=k:=fun x hx e=>by have:=h.hi x hx; rw[e] at this; exact lt_irrefl _ this
theorem Dj{X:aE}(h:∀ x∈X,¬ x.1=k):look X k=none:=by
 unfold look;rw[List.find?_eq_none.2 (fun x hx=>by simp[h x hx])];rfl
theorem rP{X Y:aE}(h:∀ x∈X,¬ x.1=k):look (X ++ Y) k=look Y k:=by
 unfold look;rw[List.find?_append,List.find?_eq_none.2 (fun x hx=>by simp[h x hx])];simp
theorem Cut.qP{X Y:aE}(h:Cut k X Y):look (X ++ Y) k=none:=by rw[rP h.nx,Dj h.ny]
theorem Cut.nV{X Y:aE}(h:Cut k X Y):look (X ++ (k,x) :: Y) k=some x:=by
 rw[rP h.nx];simp[look]
theorem Cut.wY{X Y:aE}(h:Cut k X Y):put (X ++ Y) k v=X ++ (k,v) :: Y:=by
 unfold put;rw[List.filter_append,List.filter_append,ec (l:=X) (fun x hx=>decide_eq_true (h.lo x hx)),iB (l:=Y) (fun x hx=>decide_eq_false (h.hi x hx).not),iB (l:=X) (fun x hx=>decide_eq_false (h.lo x hx).not),ec (l:=Y) (fun x hx=>decide_eq_true (h.hi x hx))];simp
theorem Cut.vK{X Y:aE}(h:Cut k X Y):put (X ++ (k,x) :: Y) k v=X ++ (k,v) :: Y:=by
 unfold put;rw[List.filter_append,List.filter_append,ec (l:=X) (fun x hx=>decide_eq_true (h.lo x hx)),iB (l:=X) (fun x hx=>decide_eq_false (h.lo x hx).not),List.filter_cons,List.filter_cons,iB (l:=Y) (fun x hx=>decide_eq_false (h.hi x hx).not),ec (l:=Y) (fun x hx=>decide_eq_true (h.hi x hx)),decide_eq_false (lt_irrefl k)];simp
theorem Cut.Ai{X Y:aE}(h:Cut k X Y):rem (X ++ Y) k=X ++ Y:=by
 unfold rem;rw[List.filter_append,ec (l:=X) (fun x hx=>decide_eq_true (h.nx x hx)),ec (l:=Y) (fun x hx=>decide_eq_true (h.ny x hx))]
theorem Cut.DF{X Y:aE}(h:Cut k X Y):rem (X ++ (k,x) :: Y) k=X ++ Y:=by
 unfold rem;rw[List.filter_append,ec (l:=X) (fun x hx=>decide_eq_true (h.nx x hx)),List.filter_cons,ec (l:=Y) (fun x hx=>decide_eq_true (h.ny x hx))];simp
theorem qk{X Y:aE}(h:eP (X ++ (k,x) :: Y)):Cut k X Y:=by
 unfold eP at h;rw[List.pairwise_append,List.pairwise_cons] at h;exact⟨fun a ha=>h.2.2 a ha (k,x) List.mem_cons_self,fun b hb=>h.2.1.1 b hb⟩
theorem eP.cut{E:aE}(h:eP E)(k:List Int):∃ X Y,Cut k X Y/\((E=X ++ Y/\look E k=none)\/∃ x,E=X ++ (k,x) :: Y/\look E k=some x):=by
 induction E with
 | nil=>exact⟨[],[],⟨fun _ h=>by simp at h,fun _ h=>by simp at h⟩,.inl ⟨rfl,rfl⟩⟩
 | cons a E ih =>
  have b:=h;unfold eP at b;rw[List.pairwise_cons] at b;rcases qp a.1 k with f | he | d
  ·obtain⟨X,Y,c,r⟩:=ih b.2
   have hc:Cut k (a :: X) Y:=⟨fun x hx=>by
    rcases List.mem_cons.1 hx with rfl | hx
    ·exact f
    ·exact c.lo x hx,c.hi⟩
   refine⟨a :: X,Y,hc,?_⟩;rcases r with⟨e,_⟩ | ⟨x,e,_⟩
   ·subst e; exact .inl ⟨rfl,hc.qP⟩
   ·subst e; exact .inr ⟨x,rfl,hc.nV⟩
  ·have hc:Cut k [] E:=⟨fun _ h=>by simp at h,fun y hy=>by rw[<- he]; exact b.1 y hy⟩
   obtain⟨i,g⟩:=a;simp only at he;subst he;exact⟨[],E,hc,.inr ⟨g,rfl,hc.nV⟩⟩
  ·have hc:Cut k [] (a :: E):=⟨fun _ h=>by simp at h,fun y hy=>by
    rcases List.mem_cons.1 hy with rfl | hy
    ·exact d
    ·exact d.trans (b.1 y hy)⟩
   exact⟨[],a :: E,hc,.inl ⟨rfl,hc.qP⟩⟩
theorem qZ{X Y:aE}(h:eP (X ++ Y))(c:Cut k X Y):eP (X ++ (k,v) :: Y):=by
 unfold eP at h ⊢;rw[List.pairwise_append] at h;rw[List.pairwise_append,List.pairwise_cons];refine⟨h.1,⟨fun y hy=>c.hi y hy,h.2.1⟩,fun x hx y hy => ?_⟩;rcases List.mem_cons.1 hy with rfl | hy
 ·exact c.lo x hx
 ·exact h.2.2 x hx y hy
theorem Aq{X Y:aE}(h:eP (X ++ (k,v) :: Y)):eP (X ++ Y):=by
 unfold eP at h ⊢;rw[List.pairwise_append,List.pairwise_cons] at h;rw[List.pairwise_append];exact⟨h.1,h.2.1.2,fun x hx y hy=>h.2.2 x hx y (List.mem_cons_of_mem _ hy)⟩
theorem eP.put{E:aE}(h:eP E)(k v:List Int):eP (put E k v):=by
 obtain⟨X,Y,c,⟨rfl,_⟩ | ⟨x,rfl,_⟩⟩:=h.cut k
 ·rw[c.wY]; exact qZ h c
 ·rw[c.vK]; exact qZ (Aq h) c
theorem eP.rem{E:aE}(h:eP E)(k:List Int):eP (rem E k):=List.Pairwise.filter _ h
abbrev Und:=List Int × Option (List Int)
def Ay(E:aE)(u:Und):aE:=match u.2 with
 | none=>rem E u.1
 | some v=>put E u.1 v
theorem xz{E:aE}(h:eP E)(k v:List Int):Ay (put E k v) (k,look E k)=E:=by
 obtain⟨X,Y,c,⟨rfl,e⟩ | ⟨x,rfl,e⟩⟩:=h.cut k
 ·rw[e,c.wY]; exact c.DF
 ·rw[e,c.vK]; exact c.vK
theorem xL{E:aE}(h:eP E)(k:List Int):Ay (rem E k) (k,look E k)=E:=by
 obtain⟨X,Y,c,⟨rfl,e⟩ | ⟨x,rfl,e⟩⟩:=h.cut k
 ·rw[e,c.Ai]; exact c.Ai
 ·rw[e,c.DF]; exact c.wY
def u7(U:List Und)(E:aE):aE:=U.foldr (fun u E=>Ay E u) E
theorem ua(U:List Und)(u:Und)(E:aE):u7 (U ++ [u]) E=u7 U (Ay E u):=by simp[u7]
def ku:List (List Und)->List aE->aE->Prop
 | [],[],_=>True
 | U :: J,e :: W,E=>u7 U E=e/\ku J W e
 | _,_,_=>False
theorem ix(h:kz Q)(k v:List Int):(wN Q k v).flatten=put Q.flatten k v:=by
 cases hh:gk Q k
 ·obtain⟨X,Y,e1,e2,b,a⟩:=h.ig v hh;rw[e1,e2,Cut.wY ⟨b,a⟩]
 ·obtain⟨X,x,Y,e1,e2⟩:=h.uP v hh;have c:=qk (by have:=h.flat; rw[e1] at this; exact this);rw[e1,e2,c.vK]
theorem jF(h:kz Q)(k:List Int):gk Q k=(look Q.flatten k).isSome:=by
 cases hh:gk Q k
 ·obtain⟨X,Y,e1,_,b,a⟩:=h.ig [] hh;rw[e1,Cut.qP ⟨b,a⟩]; rfl
 ·obtain⟨X,x,Y,e1,_⟩:=h.uP [] hh;have c:=qk (by have:=h.flat; rw[e1] at this; exact this);rw[e1,c.nV]; rfl
theorem ir(h:kz Q)(k:List Int):(sq Q k).flatten=rem Q.flatten k:=by
 cases hh:gk Q k
 ·rw[wM hh];obtain⟨X,Y,e1,_,b,a⟩:=h.ig [] hh;rw[e1,Cut.Ai ⟨b,a⟩]
 ·obtain⟨X,x,Y,e1,e2⟩:=h.Cg hh;have c:=qk (by have:=h.flat; rw[e1] at this; exact this);rw[e1,e2,c.DF]
theorem CQ(a:gk Q k=true):(k,vW Q k)∈Q.flatten:=by
 unfold gk thr at a;simp only[Bool.and_eq_true,Bool.not_eq_true',decide_eq_true_eq] at a;obtain⟨_,b⟩:=a;unfold vW;rw[List.getElem?_map] at b;obtain⟨x,hx,c⟩:=Option.map_eq_some_iff.1 b;rw[hx];simp only[Option.map_some,Option.getD_some];have hm:=List.mem_of_getElem? hx
 have d:x=(k,x.2):=by rw[<- c]
 rw[<- d];rw[List.getD_eq_getElem?_getD] at hm
 cases hq:Q[apl Q k]? with
 | none=>rw[hq] at hm; simp at hm
 | some p=>rw[hq] at hm; exact List.mem_flatten.2 ⟨p,List.mem_of_getElem? hq,hm⟩
theorem ym(h:kz Q)(k:List Int):(if gk Q k then vW Q k else [])=(look Q.flatten k).getD []:=by
 cases hh:gk Q k
 ·have:=jF h k;rw[hh] at this
  cases hl:look Q.flatten k with
  | none=>rfl
  | some x=>rw[hl] at this; cases this
 ·have hm:=CQ hh;obtain⟨X,Y,e⟩:=List.append_of_mem hm;have c:=qk (by have:=h.flat; rw[e] at this; exact this);rw[e,c.nV]; rfl
theorem jh{E:aE}(h:look E k=some x):(k,x)∈E:=by
 unfold look at h;obtain⟨a,c,rfl⟩:=Option.map_eq_some_iff.1 h;have d:=List.mem_of_find?_eq_some c;have b:=List.find?_some c;simp only[decide_eq_true_eq] at b;rw[<- b]; exact d
theorem um{E:aE}(h:eP E)(k v:List Int):(put E k v).length<=E.length + 1:=by
 obtain⟨X,Y,c,⟨rfl,_⟩ | ⟨x,rfl,_⟩⟩:=h.cut k
 ·rw[c.wY]; simp; omega
 ·rw[c.vK]; simp
theorem uR{E:aE}(k:List Int):(rem E k).length<=E.length:=List.length_filter_le _ _
end
end Kv
end
section
namespace Pg
open Go.RowKit Go.Lib
section
variable {L:List Pg}{N g b:Nat}{w w':World}{F D:Nat->Prop}{Q:List (List KV)}{P:List (List En)}{p:En->Prop}{kv:Value}{k:List Int}
structure Mp(w:World)(F D:Nat->Prop)(g:Nat)(Q:List (List KV))(N:Nat):Prop where
 ex:∃ L,abs (ens L)=Q/\bL w F D g L/\Ord (ens L)/\Shq (ens L)/\(ens L).flatten.length<=N/\∀ es∈ens L,∀ e∈es,e.kl.length<=1000000000/\e.vl.length<=1000000000
theorem uv:∀ {P:List (List En)},(∀ es∈P,1<=es.length)->P.length<=P.flatten.length
 | [],_=>Nat.le_refl _
 | a :: P,h=>by
  have h1:=h a List.mem_cons_self;have b:=uv (P:=P) fun es he=>h es (List.mem_cons_of_mem _ he)
  simp only[List.flatten_cons,List.length_append,List.length_cons];omega
theorem Shq.few(h:Shq (ens L))(hN:(ens L).flatten.length<=N)(hb:N<=100000000):L.length<=100000000:=by
 have h1:=uv fun es he=>(h.one es he).1
 have h2:(ens L).length=L.length:=by simp[ens]
 omega
theorem Mp.lt(M:Mp w F D g Q N)(hb:F b):b < w.heap.size:=by
 obtain⟨L,_,A,_⟩:=M.ex;exact A.lt hb
theorem Mp.noU(M:Mp w F D g Q N)(hb:F b)(cs:List Value):¬ Blk w b cs 5:=by
 obtain⟨L,_,A,_⟩:=M.ex;exact A.noU hb cs
theorem Mp.keep(M:Mp w F D g Q N)(hb:Below w.heap.size w w'):Mp w' F D g Q N:=by
 obtain⟨L,e,A,r⟩:=M.ex;exact⟨L,e,A.keep hb,r⟩
theorem Mp.same(M:Mp w F D g Q N)(c:∀ b,F b->w'.heap[b]? = w.heap[b]?)(a:∀ b,b < w.heap.size->D b->(∃ cs,Blk w b cs 5)->w'.heap[b]? = w.heap[b]?):Mp w' F D g Q N:=by
 obtain⟨L,e,A,r⟩:=M.ex;exact⟨L,e,A.same c a,r⟩
theorem Mp.chg{F':Nat->Prop}(M:Mp w F D g Q N)(hc:Chg F' w w')(h1:∀ b,F' b->¬ F b)(h2:∀ b,F' b->∀ cs,¬ Blk w b cs 5):Mp w' F D g Q N:=by
 obtain⟨L,e,A,r⟩:=M.ex;exact⟨L,e,A.chg hc h1 h2,r⟩
theorem Mp.mono{D':Nat->Prop}(M:Mp w F D g Q N)(hD:∀ b,b < w.heap.size->D b->D' b):Mp w F D' g Q N:=by
 obtain⟨L,e,A,r⟩:=M.ex;exact⟨L,e,A.mono hD,r⟩
theorem Mp.more{N':Nat}(M:Mp w F D g Q N)(h:N<=N'):Mp w F D g Q N':=by
 obtain⟨L,e,A,O,S,n,r⟩:=M.ex;exact⟨L,e,A,O,S,by omega,r⟩
theorem Mp.ord(M:Mp w F D g Q N):kz Q:=by
 obtain⟨L,e,A,O,_⟩:=M.ex;exact⟨_,e,O⟩
theorem Mp.len(M:Mp w F D g Q N):Q.flatten.length<=N:=by
 obtain⟨L,rfl,A,O,S,n,r⟩:=M.ex;rw[dt,List.length_map];exact n
theorem Mp.small(M:Mp w F D g Q N):∀ x∈Q.flatten,x.1.length<=1000000000/\x.2.length<=1000000000:=by
 obtain⟨L,rfl,A,O,S,n,r⟩:=M.ex;intro x hx;rw[dt] at hx;obtain⟨e,he,rfl⟩:=List.mem_map.1 hx;obtain⟨es,b,a⟩:=List.mem_flatten.1 he;exact r es b e a
theorem mZ:(∀ es∈P,∀ e∈es,p e)<->∀ e∈P.flatten,p e :=
 ⟨fun h e he=>by obtain⟨es,h1,h2⟩:=List.mem_flatten.1 he; exact h es h1 e h2,fun h es he e hee=>h e (List.mem_flatten.2 ⟨es,he,hee⟩)⟩
theorem mnew:Calls Tryz.prog 43 #[] w fun e w'=>e=.returned (.pointer (some ⟨w.heap.size,0,none⟩))/\Mp w' (· = w.heap.size) (fun _=>False) w.heap.size [] 0/\Below w.heap.size w w' :=
 Bd.mono fun e w' ⟨g,he,a,A,B⟩=>by
  subst a;exact⟨he,⟨[],rfl,A,⟨fun _ h=>by simp[ens] at h,List.Pairwise.nil⟩,Shq.nil,Nat.le_refl _,fun _ h=>by simp[ens] at h⟩,B⟩
theorem mset{vv:Value}{v:List Int}(M:Mp w F D g Q N)(l:By w kv k)(hv:By w vv v)(a:k.length<=1000000000)(c:v.length<=1000000000)(j:N<=100000000) :
  Calls Tryz.prog 97 #[.pointer (some ⟨g,0,none⟩),kv,vv] w fun e w'=>e=.returned (.bool (!gk Q k))/\∃ F',Mp w' F' (fun b=>D b\/w.heap.size<=b) g (wN Q k v) (N + 1)/\(∀ b,F' b->F b\/w.heap.size<=b)/\Chg F w w':=by
 obtain⟨L,rfl,A,O,S,n,r⟩:=M.ex;refine(CA A O (fun es he=>(S.one es he).2) (S.few n j) l hv a c).mono fun e w' ⟨he,F',f,nk,d,e1,i,hF,hc⟩ => ?_
 refine⟨by rw[gl]; exact he,F',⟨f,by rw[e1,pK],i,by rw[e1]; exact O.set _,by rw[e1]; exact S.set O _,?_,?_⟩,hF,hc⟩
 ·rw[e1,BV O];split<;>omega
 ·rw[e1];rw[mZ] at r ⊢;intro x hx
  cases hh:has (ens L) k
  ·obtain⟨X,Y,e2,e3,_⟩:=gE O (e:=⟨nk,k,d,v⟩) hh;rw[e3] at hx;rw[e2] at r;rcases List.mem_append.1 hx with h | h
   ·exact r x (List.mem_append_left _ h)
   ·rcases List.mem_cons.1 h with h | h
    ·subst h; exact⟨a,c⟩
    ·exact r x (List.mem_append_right _ h)
  ·obtain⟨X,y,Y,e2,hy,e3⟩:=gx O (e:=⟨nk,k,d,v⟩) hh;rw[e3] at hx;rw[e2] at r;rcases List.mem_append.1 hx with h | h
   ·exact r x (List.mem_append_left _ h)
   ·rcases List.mem_cons.1 h with h | h
    ·subst h; exact⟨by simp only; rw[hy]; exact a,c⟩
    ·exact r x (List.mem_append_right _ (List.mem_cons_of_mem _ h))
theorem mdel(M:Mp w F D g Q N)(c:By w kv k)(f:N<=100000000) :
  Calls Tryz.prog 122 #[.pointer (some ⟨g,0,none⟩),kv] w fun e w'=>e=.returned (.bool (gk Q k))/\∃ F',Mp w' F' D g (sq Q k) N/\(∀ b,F' b->F b\/w.heap.size<=b)/\Chg F w w':=by
 obtain⟨L,rfl,A,O,S,n,r⟩:=M.ex;refine(r6 A O (fun es he=>(S.one es he).2) (S.few n f) c).mono fun e w' ⟨he,F',a,e1,d,hF,hc⟩ => ?_
 refine⟨by rw[gl]; exact he,F',⟨a,by rw[e1,vw],d,by rw[e1]; exact O.del _,by rw[e1]; exact S.del O _,?_,?_⟩,hF,hc⟩
 ·rw[e1]
  cases hh:has (ens L) k
  ·rw[rn hh]; exact n
  ·obtain⟨X,x,Y,e2,_,e3⟩:=mY O hh;rw[e2] at n;rw[e3];simp only[List.length_append,List.length_cons] at n ⊢;omega
 ·rw[e1];rw[mZ] at r ⊢;intro x hx
  cases hh:has (ens L) k
  ·rw[rn hh] at hx; exact r x hx
  ·obtain⟨X,y,Y,e2,_,e3⟩:=mY O hh;rw[e3] at hx;rw[e2] at r;rcases List.mem_append.1 hx with h | h
   ·exact r x (List.mem_append_left _ h)
   ·exact r x (List.mem_append_right _ (List.mem_cons_of_mem _ h))
theorem mget(M:Mp w F D g Q N)(b:By w kv k)(c:N<=100000000) :
  Calls Tryz.prog 170 #[.pointer (some ⟨g,0,none⟩),kv] w fun e w'=>∃ v,e=.returned (.tuple #[v,.bool (gk Q k)])/\OB w' (w.heap.size <= ·) v (if gk Q k then vW Q k else [])/\Below w.heap.size w w':=by
 obtain⟨L,rfl,A,O,S,n,r⟩:=M.ex;rw[gl,BE];exact Cw A O (fun es he=>by have:=(S.one es he).2; omega) (S.few n c) b fun p a e he=>(r p.es (List.mem_map.2 ⟨p,a,rfl⟩) e he).2
end
end Pg
end
section
namespace Kv
open Go.RowKit Go.Lib Pg
section
variable {V D V' D' K:Nat->Prop}{w w':World}{v c jv:Value}{l:List Int}{g b n N:Nat}{cs cs':List Value}{oj:Option Nat}{E:aE}{W:List aE}
theorem KF:Kd Tryz.prog 270 1 1 8 .nilFunc:=⟨by kernel_rfl,by kernel_rfl,rfl,by simp[Value.cells,Value.oneCell'],by decide⟩
structure nm(w : World)(V D : Nat → Prop)(g : Nat)(u : Und)(c : Value) : Prop where
  short : u.1.length ≤ 1000000000 ∧ ∀ x, u.2 = some x → x.length ≤ 1000000000
  ex : ∃ s1 s2 kv, V s1 ∧ V s2 ∧ Blk w s1 [.pointer (some ⟨g, 0, none⟩)] 37 ∧ Blk w s2 [kv] 96 ∧ OB w D kv u.1 ∧
    ((u.2 = none ∧ c = .func (.func 191) #[] #[.pointer (some ⟨s1, 0, none⟩), .pointer (some ⟨s2, 0, none⟩)]) ∨
     ∃ s3 vv x, V s3 ∧ Blk w s3 [vv] 96 ∧ OB w D vv x ∧ u.2 = some x ∧ c = .func (.func 192) #[] #[.pointer (some ⟨s1, 0, none⟩), .pointer (some ⟨s2, 0, none⟩), .pointer (some ⟨s3, 0, none⟩)])
structure kW(V D:Nat->Prop)(w w':World):Prop where
 var:∀ b cs t,V b->Blk w b cs t->(t=37\/t=96)->w'.heap[b]? = w.heap[b]?
 byt:∀ b,b < w.heap.size->D b->(∃ cs,Blk w b cs 5)->w'.heap[b]? = w.heap[b]?
theorem kW.ob(h:kW V D w w')(O:OB w D v l):OB w' D v l :=
 ⟨O.oct,O.ex.imp id (by
  rintro⟨b,c,e,hd,hR⟩
  exact⟨b,c,e,hd,hR.same (h.byt b hR.lt hd hR.kind)⟩)⟩
theorem nm.stay{u:Und}(h:nm w V D g u c)(hs:kW V D w w'):nm w' V D g u c:=by
 obtain⟨s1,s2,kv,v1,v2,a,b2,ok,r⟩:=h.ex;refine⟨h.short,s1,s2,kv,v1,v2,a.same (hs.var _ _ _ v1 a (.inl rfl)),b2.same (hs.var _ _ _ v2 b2 (.inr rfl)),hs.ob ok,r.imp id ?_⟩;rintro⟨s3,vv,x,v3,b3,b,e⟩;exact⟨s3,vv,x,v3,b3.same (hs.var _ _ _ v3 b3 (.inr rfl)),hs.ob b,e⟩
theorem nm.mono{u:Und}(h:nm w V D g u c)(a:∀ b,V b->V' b)(d:∀ b,b < w.heap.size->D b->D' b):nm w V' D' g u c:=by
 obtain⟨s1,s2,kv,v1,v2,i,b2,ok,r⟩:=h.ex;refine⟨h.short,s1,s2,kv,a _ v1,a _ v2,i,b2,ok.mono d,r.imp id ?_⟩;rintro⟨s3,vv,x,v3,b3,f,e⟩;exact⟨s3,vv,x,a _ v3,b3,f.mono d,e⟩
theorem nm.one{u:Und}(h:nm w V D g u c):c.oneCell'=true:=by
 obtain⟨s1,s2,kv,v1,v2,b1,b2,ok,⟨_,rfl⟩ | ⟨s3,vv,x,v3,b3,ov,_,rfl⟩⟩:=h.ex<;>rfl
def iF(w:World)(V D:Nat->Prop)(g:Nat)(U:List Und)(cs:List Value):Prop:=cs.length=U.length/\∀ (i:Nat) u c,U[i]? = some u->cs[i]? = some c->nm w V D g u c
theorem iF.stay{U:List Und}(h:iF w V D g U cs)(hs:kW V D w w'):iF w' V D g U cs:=⟨h.1,fun i u c hu hc=>(h.2 i u c hu hc).stay hs⟩
theorem iF.mono{U:List Und}(h:iF w V D g U cs)(hV:∀ b,V b->V' b)(hD:∀ b,b < w.heap.size->D b->D' b):iF w V' D' g U cs:=⟨h.1,fun i u c hu hc=>(h.2 i u c hu hc).mono hV hD⟩
theorem iF.app{U a:List Und}(h:iF w V D g U cs)(b:iF w V D g a cs'):iF w V D g (U ++ a) (cs ++ cs'):=by
 refine⟨by rw[List.length_append,List.length_append,h.1,b.1],fun i u c hu hc => ?_⟩;by_cases hi:i < U.length
 ·rw[List.getElem?_append_left hi] at hu;rw[List.getElem?_append_left (by rw[h.1]; exact hi)] at hc;exact h.2 i u c hu hc
 ·rw[List.getElem?_append_right (by omega)] at hu;rw[List.getElem?_append_right (by rw[h.1]; omega),h.1] at hc;exact b.2 _ u c hu hc
theorem iF.one{U:List Und}(h:iF w V D g U cs):∀ c∈cs,c.oneCell'=true:=fun c hc=>by
 obtain⟨i,hi⟩:=List.getElem?_of_mem hc;have a:=(List.getElem?_eq_some_iff.1 hi).1;exact(h.2 i (U[i]'(by rw[<- h.1]; exact a)) c (List.getElem?_eq_getElem _) hi).one
structure Jr where
 U:List Und
 v:Value
 o:Option Nat
def JrA(w:World)(V D:Nat->Prop)(g:Nat)(j:Jr):Prop:=∃ cs,iF w V D g j.U cs/\((j.o=none/\j.v=.slice none 0 0/\j.U=[])\/∃ b c,j.o=some b/\j.v=.slice (some ⟨b,0,none⟩) j.U.length c/\Rw w 1 1 b j.U.length c cs)
theorem JrA.stay{j:Jr}(h:JrA w V D g j)(hs:kW V D w w')(d:∀ b,j.o=some b->w'.heap[b]? = w.heap[b]?):JrA w' V D g j:=by
 obtain⟨cs,hc,r⟩:=h;refine⟨cs,hc.stay hs,r.imp id ?_⟩;rintro⟨b,c,e1,e2,a⟩;exact⟨b,c,e1,e2,a.same (d b e1)⟩
theorem JrA.mono{j:Jr}(h:JrA w V D g j)(hV:∀ b,V b->V' b)(hD:∀ b,b < w.heap.size->D b->D' b):JrA w V' D' g j:=by
 obtain⟨cs,hc,r⟩:=h;exact⟨cs,hc.mono hV hD,r⟩
theorem JrA.kind{j:Jr}(h:JrA w V D g j)(hb:j.o=some b):∃ cs,Blk w b cs 1:=by
 obtain⟨cs,hc,⟨e,_⟩ | ⟨b',c,e,_,hR⟩⟩:=h
 ·rw[hb] at e; cases e
 ·rw[hb] at e; cases e; exact hR.kind
structure JnA(w:World)(V D:Nat->Prop)(g:Nat)(jv:Value)(T:List Jr)(oj:Option Nat):Prop where
 row:(oj=none/\jv=.slice none 0 0/\T=[])\/∃ b c,oj=some b/\jv=.slice (some ⟨b,0,none⟩) T.length c/\Rw w 273 1 b T.length c (T.map Jr.v)
 each:∀ j∈T,JrA w V D g j
 apart:(T.filterMap Jr.o).Nodup
theorem JnA.stay{T:List Jr}(h:JnA w V D g jv T oj)(hs:kW V D w w')(e:∀ b,oj=some b->w'.heap[b]? = w.heap[b]?)(hb:∀ j∈T,∀ b,j.o=some b->w'.heap[b]? = w.heap[b]?):JnA w' V D g jv T oj :=
 ⟨h.row.imp id (by rintro⟨b,c,e1,e2,d⟩; exact⟨b,c,e1,e2,d.same (e b e1)⟩),fun j a=>(h.each j a).stay hs (hb j a),h.apart⟩
theorem JnA.mono{T:List Jr}(h:JnA w V D g jv T oj)(hV:∀ b,V b->V' b)(hD:∀ b,b < w.heap.size->D b->D' b):JnA w V' D' g jv T oj :=
 ⟨h.row,fun j hj=>(h.each j hj).mono hV hD,h.apart⟩
theorem JnA.kind{T:List Jr}(h:JnA w V D g jv T oj)(hb:oj=some b):∃ cs,Blk w b cs 273:=by
 rcases h.row with⟨e,_⟩ | ⟨b',c,e,_,hR⟩
 ·rw[hb] at e; cases e
 ·rw[hb] at e; cases e; exact hR.kind
def tot(T:List Jr):Nat:=(T.map fun j=>j.U.length).sum
structure Own(w:World)(K F V:Nat->Prop)(g:Nat)(T:List Jr)(oj:Option Nat):Prop where
 top:K g
 map:∀ b,F b->K b
 var:∀ b,V b->K b
 jrn:∀ b,oj=some b->K b
 bck:∀ j∈T,∀ b,j.o=some b->K b
 kind:∀ b,K b->∃ cs t,Blk w b cs t/\t≠5
 pO:¬ F g
 sG:∀ b,V b->¬ F b
 qY:∀ b,oj=some b->¬ F b
 nK:∀ j∈T,∀ b,j.o=some b->¬ F b
 vk:∀ b,V b->∃ cs t,Blk w b cs t/\(t=37\/t=96)
structure SA(w:World)(K D:Nat->Prop)(g:Nat)(E:aE)(W:List aE)(n N:Nat):Prop where
 ex:∃ F V m Q jv T oj,Blk w g [.pointer (some ⟨m,0,none⟩),jv,.int .i64 n] 94/\Mp w F D m Q N/\Q.flatten=E/\JnA w V D g jv T oj/\ku (T.reverse.map Jr.U) W E/\tot T + E.length<=N/\T.length<=16/\Own w K F V g T oj
theorem SA.lt(h:SA w K D g E W n N)(hb:K b):b < w.heap.size:=by
 obtain⟨F,V,m,Q,jv,T,oj,_,_,_,_,_,_,_,O⟩:=h.ex;obtain⟨cs,t,h,_⟩:=O.kind b hb;exact h.lt
theorem SA.top(h:SA w K D g E W n N):K g:=by
 obtain⟨F,V,m,Q,jv,T,oj,_,_,_,_,_,_,_,O⟩:=h.ex;exact O.top
theorem Own.same{F:Nat->Prop}{T:List Jr}(O:Own w K F V g T oj)(d:∀ b,K b->w'.heap[b]? = w.heap[b]?):Own w' K F V g T oj :=
 ⟨O.top,O.map,O.var,O.jrn,O.bck,fun b hb=>by
  obtain⟨cs,t,c,a⟩:=O.kind b hb;exact⟨cs,t,c.same (d b hb),a⟩,O.pO,O.sG,O.qY,O.nK,fun b hv=>by
  obtain⟨cs,t,c,a⟩:=O.vk b hv
  exact⟨cs,t,c.same (d b (O.var b hv)),a⟩⟩
theorem SA.same(h:SA w K D g E W n N)(a:∀ b,K b->w'.heap[b]? = w.heap[b]?)(d:∀ b,b < w.heap.size->D b->(∃ cs,Blk w b cs 5)->w'.heap[b]? = w.heap[b]?):SA w' K D g E W n N:=by
 obtain⟨F,V,m,Q,p,T,o,hb,hm,he,i,l,k,f,O⟩:=h.ex
 have hs:kW V D w w':=⟨fun b _ _ hv _ _=>a b (O.var b hv),d⟩
 exact⟨F,V,m,Q,p,T,o,hb.same (a g O.top),hm.same (fun b hF=>a b (O.map b hF)) d,he,i.stay hs (fun b e=>a b (O.jrn b e)) (fun j c b e=>a b (O.bck j c b e)),l,k,f,O.same a⟩
theorem SA.keep(h:SA w K D g E W n N)(hb:Below w.heap.size w w'):SA w' K D g E W n N:=h.same (fun b hK=>hb.block b (h.lt hK)) (fun b hl _ _=>hb.block b hl)
theorem SA.chg{a:Nat->Prop}(h:SA w K D g E W n N)(hc:Chg a w w')(j:∀ b,a b->¬ K b)(e:∀ b,a b->∀ cs,¬ Blk w b cs 5):SA w' K D g E W n N :=
 h.same (fun b c=>hc.same b (h.lt c) fun f=>j b f c) (fun b d _ i=>hc.same b d fun f=>by obtain⟨cs,k⟩:=i; exact e b f cs k)
theorem SA.mono(h:SA w K D g E W n N)(a:∀ b,b < w.heap.size->D b->D' b):SA w K D' g E W n N:=by
 obtain⟨F,V,m,Q,d,T,j,hb,hm,he,e,i,f,c,O⟩:=h.ex;exact⟨F,V,m,Q,d,T,j,hb,hm.mono a,he,e.mono (fun _ h=>h) a,i,f,c,O⟩
theorem SA.more{N':Nat}(h:SA w K D g E W n N)(a:N<=N'):SA w K D g E W n N':=by
 obtain⟨F,V,m,Q,c,T,i,hb,hm,he,d,f,e,b,O⟩:=h.ex;exact⟨F,V,m,Q,c,T,i,hb,hm.more a,he,d,f,Nat.le_trans e a,b,O⟩
theorem SA.size(h:SA w K D g E W n N):E.length<=N:=by
 obtain⟨F,V,m,Q,jv,T,oj,hb,hm,rfl,_⟩:=h.ex;exact hm.len
theorem SA.small(h:SA w K D g E W n N):∀ x∈E,x.1.length<=1000000000/\x.2.length<=1000000000:=by
 obtain⟨F,V,m,Q,jv,T,oj,hb,hm,rfl,_⟩:=h.ex;exact hm.small
end
end Kv
end
section
namespace Kv
open Go.RowKit Go.Lib Pg
attribute [local go_sem] Oper.semAt_some
section
variable {w w':World}{K D F V:Nat->Prop}{g n N m:Nat}{E:aE}{W:List aE}{Q:List (List KV)}{jv kv:Value}{T:List Jr}{oj:Option Nat}{x:Int}{cs:List Value}{ao:Option Addr}{k:List Int}
structure SX(w:World)(K D F V:Nat->Prop)(g m:Nat)(Q:List (List KV))(jv:Value)(T:List Jr)(oj:Option Nat)(n N:Nat):Prop where
 blk:Blk w g [.pointer (some ⟨m,0,none⟩),jv,.int .i64 n] 94
 map:Mp w F D m Q N
 jn:JnA w V D g jv T oj
 tot:tot T + Q.flatten.length<=N
 len:T.length<=16
 own:Own w K F V g T oj
theorem SA.open(h:SA w K D g E W n N):∃ F V m Q jv T oj,SX w K D F V g m Q jv T oj n N/\Q.flatten=E/\ku (T.reverse.map Jr.U) W E:=by
 obtain⟨F,V,m,Q,jv,T,oj,hb,hm,he,b,d,c,a,O⟩:=h.ex;exact⟨F,V,m,Q,jv,T,oj,⟨hb,hm,b,by rw[he]; exact c,a,O⟩,he,d⟩
theorem SX.shut(h:SX w K D F V g m Q jv T oj n N)(he:Q.flatten=E)(a:ku (T.reverse.map Jr.U) W E):SA w K D g E W n N :=
 ⟨F,V,m,Q,jv,T,oj,h.blk,h.map,he,h.jn,a,by have:=h.tot; rw[he] at this; exact this,h.len,h.own⟩
theorem lF{x:Nat}{t:TypeId}(hx:Blk w x cs t)(j:t≠37)(f:t≠96)(g:t≠5)(hc:Chg (· = x) w w'):kW V D w w' :=
 ⟨fun b a l _ hb h=>hc.same b hb.lt (fun e=>by
  have c:b=x:=e;subst c;have:=(hx.eq hb).2;subst this;exact h.elim j f),fun b d _ i=>hc.same b d (fun e=>by
  have c:b=x:=e;subst c;obtain⟨a,k⟩:=i
  exact g (hx.eq k).2)⟩
theorem Own.chg1{x:Nat}(O:Own w K F V g T oj)(hs:kW V D w w')(hc:Chg (· = x) w w'){t:TypeId}(hx:Blk w' x cs t)(a:t≠5):Own w' K F V g T oj :=
 ⟨O.top,O.map,O.var,O.jrn,O.bck,fun b hb=>by
  by_cases e:b=x
  ·subst e; exact⟨cs,t,hx,a⟩
  ·obtain⟨d,h,c,f⟩:=O.kind b hb;exact⟨d,h,c.chg hc e,f⟩,O.pO,O.sG,O.qY,O.nK,fun b hv=>by
  obtain⟨cs,t,c,a⟩:=O.vk b hv
  exact⟨cs,t,c.same (hs.var b cs t hv c a),a⟩⟩
theorem SX.top{d:Nat}(h:SX w K D F V g m Q jv T oj n N)(hc:Chg (· = g) w w')(hb:Blk w' g [.pointer (some ⟨m,0,none⟩),jv,.int .i64 d] 94):SX w' K D F V g m Q jv T oj d N :=
 ⟨hb,h.map.chg hc (fun b e hF=>h.own.pO (by have c:b=g:=e; exact c▸hF)) (fun b e cs k=>by
   have c:b=g:=e;subst c
   exact absurd (h.blk.eq k).2 (by decide)),h.jn.stay (lF h.blk (by decide) (by decide) (by decide) hc)
   (fun b e=>by
    obtain⟨cs,k⟩:=h.jn.kind e
    exact hc.same b k.lt (fun c=>by
     have a:b=g:=c;subst a
     exact absurd (h.blk.eq k).2 (by decide)))
   (fun j f b e=>by
    obtain⟨cs,k⟩:=(h.jn.each j f).kind e
    exact hc.same b k.lt (fun c=>by
     have a:b=g:=c;subst a
     exact absurd (h.blk.eq k).2 (by decide))),h.tot,h.len,h.own.chg1 (lF (D:=D) h.blk (by decide) (by decide) (by decide) hc) hc hb (by decide)⟩
theorem SX.keep(h:SX w K D F V g m Q jv T oj n N)(hb:Below w.heap.size w w'):SX w' K D F V g m Q jv T oj n N:=by
 have a:∀ b,K b->w'.heap[b]? = w.heap[b]? := fun b f=>by
  obtain⟨cs,t,k,_⟩:=h.own.kind b f;exact hb.block b k.lt
 exact⟨h.blk.keep hb,h.map.keep hb,h.jn.stay ⟨fun b _ _ _ k _=>hb.block b k.lt,fun b c _ _=>hb.block b c⟩ (fun b e=>a b (h.own.jrn b e)) (fun j d b e=>a b (h.own.bck j d b e)),h.tot,h.len,h.own.same a⟩
theorem sj{a:Addr}(hc:w.cell? a=some (.int .i64 x))(b:w.frozen? a=false)(c:0<=x)(d:x<=4000000000000000000) :
  (callFunc 190 #[.pointer (some a),.int .i64 1]).run Tryz.prog w=.ok (.value (.int .i64 (x + 1))) (w.setCell a (.int .i64 (x + 1))) :=
 run_call_add Tryz.func190 (by kernel_rfl) (by kernel_rfl) (by kernel_rfl) .i64 (by kernel_rfl) hc b (by
  have e:IntKind.i64.wrap (x + 1)=x + 1:=by rw[IntKind.wrap_i64]; omega
  simp[Op.intArith,e])
theorem Cj(hc:w.cell? ⟨g,2,none⟩=some (.int .i64 x))(c:w.frozen? ⟨g,2,none⟩=false)(b:0<=x)(f:x<=4000000000000000000) :
  Calls Tryz.prog 142 #[.pointer (some ⟨g,2,none⟩),.int .i64 1] w fun e w'=>e=.returned (.int .i64 (x + 1))/\w'=w.setCell ⟨g,2,none⟩ (.int .i64 (x + 1)):=by
 have d:=sj hc c b f;go_enter Tryz.func142,Tryz.ntmps142;go_wp2_with (simp only[d]);go_ret;exact⟨rfl,rfl⟩
theorem ke(hc:w.cell? ⟨g,2,none⟩=some (.int .i64 x))(b:w.frozen? ⟨g,2,none⟩=false)(c:0<=x)(d:x<=4000000000000000000) :
  Calls Tryz.prog 95 #[.pointer (some ⟨g,0,none⟩)] w fun e w'=>e=.returned (.tuple #[])/\w'=w.setCell ⟨g,2,none⟩ (.int .i64 (x + 1)):=by
 have u:=Cj hc b c d;clear hc b;go_enter Tryz.func95,Tryz.ntmps95;go_wp2_with (go_at_call 142; refine u.mono ?_; rintro e f ⟨rfl,rfl⟩);go_end0;exact⟨rfl,rfl⟩
theorem fS(h:SX w K D F V g m Q jv T oj n N)(hn:n<=4000000000000000000) :
  Calls Tryz.prog 95 #[.pointer (some ⟨g,0,none⟩)] w fun e w'=>e=.returned (.tuple #[])/\SX w' K D F V g m Q jv T oj (n + 1) N/\Chg (· = g) w w':=by
 refine(ke (h.blk.cell (i:=2) rfl) (h.blk.free 2) (by omega) (by omega)).mono ?_
 rintro e w' ⟨rfl,rfl⟩
 have hc:Chg (· = g) w (w.setCell ⟨g,2,none⟩ (.int .i64 ((n:Int) + 1))):=(Chg.refl (· = g) w).cell (.inl rfl) _;refine⟨rfl,h.top hc ?_,hc⟩;have:=h.blk.setCell (i:=2) (.int .i64 ((n:Int) + 1));exact this
theorem oE{c:Nat}{b d:Value}(h:Blk w g [b,.slice ao n c,d] 94) :
  Calls Tryz.prog 143 #[.pointer (some ⟨g,0,none⟩)] w fun e w'=>e=.returned (.int .i64 n)/\w'=w:=by
 have c1:=h.cell (i:=1) rfl;clear h;go_enter Tryz.func143,Tryz.ntmps143;go_wp2;go_ret;exact⟨rfl,rfl⟩
theorem JnA.shape(h:JnA w V D g jv T oj):∃ ao c,jv=.slice ao T.length c:=by
 rcases h.row with⟨_,e,rfl⟩ | ⟨b,c,_,e,_⟩
 ·exact⟨none,0,e⟩
 ·exact⟨_,c,e⟩
theorem x8(h:SX w K D F V g m Q jv T oj n N) :
  Calls Tryz.prog 143 #[.pointer (some ⟨g,0,none⟩)] w fun e w'=>e=.returned (.int .i64 T.length)/\w'=w:=by
 obtain⟨a,c,e⟩:=h.jn.shape;have hb:=h.blk;rw[e] at hb;exact oE hb
theorem snew:Calls Tryz.prog 16 #[] w fun e w'=>∃ g K,e=.returned (.pointer (some ⟨g,0,none⟩))/\SA w' K (fun _=>False) g [] [] 0 0/\(∀ b,K b->w.heap.size<=b)/\Below w.heap.size w w':=by
 have u:=mnew (w:=w);go_enter Tryz.func16,Tryz.ntmps16;go_wp2_with (go_at_call 43; refine u.mono ?_; rintro e c ⟨rfl,M,B⟩);go_ret;have d:=M.lt (b:=w.heap.size) rfl;have al:=ae c (.cells #[.pointer (some ⟨w.heap.size,0,none⟩),.slice none 0 0,.int .i64 0] 94);have bl:=aC c [.pointer (some ⟨w.heap.size,0,none⟩),.slice none 0 0,.int .i64 0] 94;have M2:=M.keep al;refine⟨c.heap.size,fun b=>b=w.heap.size\/b=c.heap.size,rfl,⟨_,fun _=>False,_,_,_,[],none,bl,M2,rfl,⟨.inl ⟨rfl,rfl,rfl⟩,fun _ h=>by simp at h,List.nodup_nil⟩,trivial,by decide,by decide,?_⟩,fun b hb=>by have:=B.size; omega,aj B al⟩;refine⟨.inr rfl,fun b hb=>.inl hb,fun _ h=>h.elim,(fun _ h=>by cases h),(fun _ h=>by simp at h),fun b hb => ?_,(fun h=>by have f:c.heap.size=w.heap.size:=h; omega),fun _ h=>h.elim,(fun _ h=>by cases h),(fun _ h=>by simp at h),fun _ h=>h.elim⟩;rcases hb with rfl | rfl
 ·obtain⟨L,_,A,_⟩:=M2.ex;exact A.kind _ rfl
 ·exact⟨_,_,bl,by decide⟩
theorem jR(h:SX w K D F V g m Q jv T oj n N)(a:By w kv k)(b:N<=100000000) :
  Calls Tryz.prog 170 #[.pointer (some ⟨m,0,none⟩),kv] w fun e w'=>∃ v,e=.returned (.tuple #[v,.bool (look Q.flatten k).isSome])/\OB w' (w.heap.size <= ·) v ((look Q.flatten k).getD [])/\Below w.heap.size w w':=by
 have u:=mget h.map a b;rw[ym h.map.ord,jF h.map.ord] at u;exact u
theorem tQ(h:SX w K D F V g m Q jv T oj n N)(b:By w kv k)(d:N<=100000000) :
  Calls Tryz.prog 121 #[.pointer (some ⟨g,0,none⟩),kv] w fun e w'=>e=.returned (.bool (look Q.flatten k).isSome)/\Below w.heap.size w w':=by
 have c0:=h.blk.cell (i:=0) rfl;have u:=jR h b d;obtain⟨f,c,rfl,-⟩:=id b.ex;generalize (look Q.flatten k).isSome=r at *;generalize (look Q.flatten k).getD []=L at *;clear h b;go_enter Tryz.func121,Tryz.ntmps121;go_wp2_with (go_at_call 170; refine u.mono ?_; rintro e j ⟨v,rfl,O,B⟩; obtain⟨a1,c1,rfl,-⟩:=id O.by.ex);go_ret;exact⟨rfl,B⟩
end
end Kv
end
section
namespace Kv
open Go.RowKit Go.Lib Pg
attribute [local go_sem] Oper.semAt_some
section
variable {w w':World}{K D F V D':Nat->Prop}{g m n N o:Nat}{Q Q':List (List KV)}{jv v u kv:Value}{T:List Jr}{oj:Option Nat}{ao:Option Addr}
theorem aB{p:Prop}(h:p):Hid p:=h
theorem SX.vars{S:Nat->Prop}(h:SX w K D F V g m Q jv T oj n N)(f:∀ b,S b->¬ F b)(a:∀ b,S b->∃ cs t,Blk w b cs t/\(t=37\/t=96))(c:∀ b,b < w.heap.size->D b->D' b) :
  SX w (fun b=>K b\/S b) D' F (fun b=>V b\/S b) g m Q jv T oj n N :=
 ⟨h.blk,h.map.mono c,h.jn.mono (fun _=>.inl) c,h.tot,h.len,.inl h.own.top,fun b hb=>.inl (h.own.map b hb),fun b hb=>hb.imp (h.own.var b) id,fun b hb=>.inl (h.own.jrn b hb),fun j d b hb=>.inl (h.own.bck j d b hb),fun b hb=>hb.elim (h.own.kind b) (fun hs=>by
  obtain⟨cs,t,k,e⟩:=a b hs
  exact⟨cs,t,k,by rcases e with e | e<;>subst e<;>decide⟩),h.own.pO,fun b hb=>hb.elim (h.own.sG b) (f b),h.own.qY,h.own.nK,fun b hb=>hb.elim (h.own.vk b) (a b)⟩
theorem SX.mapped{F':Nat->Prop}{N':Nat}(h:SX w K D F V g m Q jv T oj n N)(q:Kv.tot T + Q'.flatten.length<=N')(l:Mp w' F' D' m Q' N')(hF:∀ b,F' b->F b\/w.heap.size<=b)(r:∀ b,D b->D' b)(hc:Chg F w w') :
  SX w' (fun b=>(K b/\¬ F b)\/F' b) D' F' V g m Q' jv T oj n N':=by
 have d:∀ b,K b->b < w.heap.size:=fun b hb=>by obtain⟨cs,t,k,_⟩:=h.own.kind b hb; exact k.lt
 have no:∀ b,K b->¬ F b->¬ F' b:=fun b hb hn hf=>by
  rcases hF b hf with o | o
  ·exact hn o
  ·have:=d b hb; omega
 have hs:kW V D w w':=⟨fun b _ _ hv k _=>hc.same b k.lt (h.own.sG b hv),fun b p _ k=>hc.same b p (fun f=>by obtain⟨cs,k⟩:=k; exact h.map.noU f cs k)⟩
 have a:JnA w' V D g jv T oj:=h.jn.stay hs (fun b e=>hc.same b (d b (h.own.jrn b e)) (h.own.qY b e)) (fun j a b e=>hc.same b (d b (h.own.bck j a b e)) (h.own.nK j a b e))
 refine⟨h.blk.chg hc h.own.pO,l,a.mono (fun _ h=>h) (fun b _=>r b),q,h.len,.inl ⟨h.own.top,h.own.pO⟩,fun b=>.inr,fun b hb=>.inl ⟨h.own.var b hb,h.own.sG b hb⟩,fun b hb=>.inl ⟨h.own.jrn b hb,h.own.qY b hb⟩,fun j a b hb=>.inl ⟨h.own.bck j a b hb,h.own.nK j a b hb⟩,fun b hb => ?_,no g h.own.top h.own.pO,fun b hb=>no b (h.own.var b hb) (h.own.sG b hb),fun b hb=>no b (h.own.jrn b hb) (h.own.qY b hb),fun j a b hb=>no b (h.own.bck j a b hb) (h.own.nK j a b hb),fun b hv=>by
  obtain⟨cs,t,k,c⟩:=h.own.vk b hv
  exact⟨cs,t,k.same (hs.var b cs t hv k c),c⟩⟩
 have i:∀ b,F' b->∃ cs t,Blk w' b cs t/\t≠5:=fun b hf=>by
  obtain⟨L,_,A,_⟩:=l.ex;exact A.kind b hf
 rcases hb with⟨hb,hf⟩ | hb
 ·obtain⟨cs,t,k,c⟩:=h.own.kind b hb;exact⟨cs,t,k.chg hc hf,c⟩
 ·exact i b hb
theorem Eb(c:w.cell? ⟨g,o,none⟩=some v):(loadVar 37 ⟨g,o,none⟩).run Tryz.prog w=.ok v w:=by go_simp
theorem xi(c:w.cell? ⟨g,o,none⟩=some v):(loadVar 86 ⟨g,o,none⟩).run Tryz.prog w=.ok v w:=by go_simp
theorem DX(c:w.cell? ⟨g,o,none⟩=some v):(loadVar 96 ⟨g,o,none⟩).run Tryz.prog w=.ok v w:=by go_simp
theorem lC{a:Act}{o:Oper}(k q:Nat){c:Nat}(b:o.op=.store 96 (.tmp k) (.tmp q))(d:a.eval (.tmp k)=.pointer (some ⟨g,0,none⟩))(f:a.eval (.tmp q)=.slice ao n c)(hc:w.cell? ⟨g,0,none⟩=some u)(hf:w.frozen? ⟨g,0,none⟩=false) :
  (execOp a.eval o).run Tryz.prog w=.ok .skip (w.setCell ⟨g,0,none⟩ (.slice ao n c)):=by
 simp only[execOp,b,d,f];go_simp
def Rds(g m s1 s2:Nat)(jv:Value)(n:Int)(kv:Value)(w:World):Prop:=Blk w s1 [.pointer (some ⟨g,0,none⟩)] 37/\Blk w g [.pointer (some ⟨m,0,none⟩),jv,.int .i64 n] 94/\Blk w s2 [kv] 96
theorem Rds.keep{s1 s2:Nat}{n:Int}(h:Rds g m s1 s2 jv n kv w)(hb:Below w.heap.size w w'):Rds g m s1 s2 jv n kv w':=⟨h.1.keep hb,h.2.1.keep hb,h.2.2.keep hb⟩
end
end Kv
end
section
namespace Kv
open Go.RowKit Go.Lib Pg
attribute [local go_sem] Oper.semAt_some
section
variable {w:World}{D:Nat->Prop}{v:Value}{l:List Int}{cs:List Value}
theorem gP{w':World}{x:Nat}(hc:Chg (· = x) w w')(hx:Blk w x cs 96)(O:OB w D v l):OB w' D v l :=
 ⟨O.oct,O.ex.imp id (by
  rintro⟨b,c,e,d,a⟩;refine⟨b,c,e,d,a.chg hc (fun g => ?_)⟩
  have e2:b=x:=g;subst e2;obtain⟨f,k⟩:=a.kind
  exact absurd (hx.eq k).2 (by decide))⟩
def Rst(w : World)(g : Nat)(k L : List Int)(there : Bool)(e : Ending)(w' : World) : Prop := ∃ s1 s2 s3 v1 v3, e = .returned (.func (.func (if there then 192 else 191)) #[] (if there then #[.pointer (some ⟨s1, 0, none⟩), .pointer (some ⟨s2, 0, none⟩), .pointer (some ⟨s3, 0, none⟩)] else #[.pointer (some ⟨s1, 0, none⟩), .pointer (some ⟨s2, 0, none⟩)])) ∧
      w.heap.size ≤ s1 ∧ w.heap.size ≤ s2 ∧ w.heap.size ≤ s3 ∧ Blk w' s1 [.pointer (some ⟨g, 0, none⟩)] 37 ∧ Blk w' s2 [v1] 96 ∧ Blk w' s3 [v3] 96 ∧ OB w' (w.heap.size ≤ ·) v1 k ∧ OB w' (w.heap.size ≤ ·) v3 L ∧ Below w.heap.size w w'
theorem pI{g m:Nat}{jv kv:Value}{n:Int}{k L:List Int}{there:Bool}(P:Blk w g [.pointer (some ⟨m,0,none⟩),jv,.int .i64 n] 94)(V:By w kv k)(Q:k.length<=1000000000)(u:∀ w' kv',Below w.heap.size w w'->By w' kv' k->Calls Tryz.prog 170 #[.pointer (some ⟨m,0,none⟩),kv'] w' fun e w''=>∃ v,e=.returned (.tuple #[v,.bool there])/\OB w'' (w'.heap.size <= ·) v L/\Below w'.heap.size w' w'') :
  Calls Tryz.prog 145 #[.pointer (some ⟨g,0,none⟩),kv] w (Rst w g k L there):=by
 obtain⟨ao,c,rfl,-⟩:=id V.ex;have K:=aC w [.pointer (some ⟨g,0,none⟩)] 37;have al:=ae w (.cells #[.pointer (some ⟨g,0,none⟩)] 37)
 have W:(w.alloc (.cells #[.pointer (some ⟨g,0,none⟩)] 37)).heap.size=w.heap.size + 1:=by simp
 have t1:=cE (V.keep al) Q;have J:=aB P;have I:=aB u;have Y:=P.lt;clear u P;generalize hln:k.length=t at *
 cases there
 ·go_enter Tryz.func145,Tryz.ntmps145;go_wp2_with (go_at_call 78; refine t1.mono ?_; rintro e s ⟨v1,rfl,p,F⟩; obtain⟨a1,c1,rfl⟩:∃ a1 c1,v1=.slice a1 k.length c1:=(by obtain⟨a1,c1,e,_⟩:=p.by.ex; exact⟨a1,c1,e⟩));rw[hln] at p;have M:=F.size;have x:=ae s (.cells #[.slice a1 t c1] 96)
  have hS:Rds g m w.heap.size s.heap.size jv n (.slice a1 t c1) (s.alloc (.cells #[.slice a1 t c1] 96)).drew:=⟨((K.keep F).keep x).drew,(((J.out.keep al).keep F).keep x).drew,(aC s [.slice a1 t c1] 96).drew⟩
  have E:Below w.heap.size w (s.alloc (.cells #[.slice a1 t c1] 96)).drew:=aj (aj (aj al F) x) ⟨rfl,rfl,rfl,Nat.le_refl _,fun _ _=>rfl⟩
  have O:s.heap.size < (s.alloc (.cells #[.slice a1 t c1] 96)).drew.heap.size:=by show _ < (s.alloc _).heap.size; simp
  replace p:=((p.mono (D':=(w.heap.size <= ·)) (fun b _ h=>by omega)).keep x).keep (w':=(s.alloc (.cells #[.slice a1 t c1] 96)).drew) ⟨rfl,rfl,rfl,Nat.le_refl _,fun _ _=>rfl⟩;clear t1 x K al;clear F;refine bU (S:=Rds g m w.heap.size s.heap.size jv n (.slice a1 t c1)) (by kernel_rfl) hS ?_
  generalize (s.alloc (.cells #[.slice a1 t c1] 96)).drew=X at *;refine aP 0 (some 11) (.pointer (some ⟨g,0,none⟩)) 37 2 w.heap.size 0 (by kernel_rfl) (by kernel_rfl) (by kernel_rfl) (fun w' h=>Eb (h.1.cell (i:=0) rfl)) (fun _ _ _ h=>h) hS ?_
  refine ai 1 (some 12) (.pointer (some ⟨g,0,none⟩)) (by kernel_rfl) (fun _ _=>by kernel_rfl) (fun _ _ _ h=>h) hS ?_
  refine ai 2 (some 13) (.pointer (some ⟨g,0,none⟩)) (by kernel_rfl) (fun _ _=>by kernel_rfl) (fun _ _ _ h=>h) hS ?_
  refine aP 3 (some 14) (.pointer (some ⟨m,0,none⟩)) 86 13 g 0 (by kernel_rfl) (by kernel_rfl) (by kernel_rfl) (fun w' h=>xi (h.2.1.cell (i:=0) rfl)) (fun _ _ _ h=>h) hS ?_
  refine aP 4 (some 15) (.slice a1 t c1) 96 5 s.heap.size 0 (by kernel_rfl) (by kernel_rfl) (by kernel_rfl) (fun w' h=>DX (h.2.2.cell (i:=0) rfl)) (fun _ _ _ h=>h) hS ?_
  have D:=ae X (.cells #[.slice none 0 0] 96);refine aL [5,9] (by kernel_rfl) (by simp) (vi 5 (some 16) 170 #[.pointer (some ⟨m,0,none⟩),.slice a1 t c1] (by kernel_rfl) (by kernel_rfl) (I.out _ _ E p.by) ?_ (bI 9 (some 6) (.pointer (some ⟨X.heap.size,0,none⟩)) (X.alloc (.cells #[.slice none 0 0] 96)) (by kernel_rfl) (by kernel_rfl) (hS.keep D) ?_ aU))
  ·rintro R y ⟨v3,rfl,A,z⟩;obtain⟨a3,j,rfl⟩:∃ a3 j,v3=.slice a3 L.length j:=(by obtain⟨a3,j,e,_⟩:=A.by.ex; exact⟨a3,j,e⟩)
   refine⟨_,rfl,hS.keep z,?_⟩;replace hS:=hS.keep z;replace p:=p.keep z;generalize L.length=r at *;refine ai 6 (some 10) (.tuple #[.slice a3 r j,.bool false]) (by kernel_rfl) (fun _ _=>by kernel_rfl) (fun _ _ _ h=>h) hS ?_
   refine ai 7 (some 17) (.slice a3 r j) (by kernel_rfl) (fun _ _=>by kernel_rfl) (fun _ _ _ h=>h) hS ?_
   refine ai 8 (some 18) (.bool false) (by kernel_rfl) (fun _ _=>by kernel_rfl) (fun _ _ _ h=>h) hS ?_
   have C:=aj E z;have N:=z.size;refine aL [9] (by kernel_rfl) (by simp) (bI 9 (some 6) (.pointer (some ⟨y.heap.size,0,none⟩)) (y.alloc (.cells #[.slice none 0 0] 96)) (by kernel_rfl) (by kernel_rfl) (hS.keep (ae y _)) ?_ aU);have H:=ae y (.cells #[.slice none 0 0] 96);replace hS:=hS.keep H;replace p:=p.keep H;replace A:=(A.mono (D':=(w.heap.size <= ·)) (fun b _ h=>by have U:X.heap.size<=b:=h; omega)).keep H;have b3:=aC y [.slice none 0 0] 96;replace C:=aj C H;have f:=b3.cell (i:=0) rfl;have l:=b3.free 0
   have q:Chg (· = y.heap.size) (y.alloc (.cells #[.slice none 0 0] 96)) ((y.alloc (.cells #[.slice none 0 0] 96)).setCell ⟨y.heap.size,0,none⟩ (.slice a3 r j)):=(Chg.refl (· = y.heap.size) (y.alloc (.cells #[.slice none 0 0] 96))).cell (.inl rfl) _
   have o:Rds g m w.heap.size s.heap.size jv n (.slice a1 t c1) ((y.alloc (.cells #[.slice none 0 0] 96)).setCell ⟨y.heap.size,0,none⟩ (.slice a3 r j)):=⟨hS.1.chg q (by omega),hS.2.1.chg q (by omega),hS.2.2.chg q (by omega)⟩
   refine aL [10] (by kernel_rfl) (by simp) (dn 10 ((y.alloc (.cells #[.slice none 0 0] 96)).setCell ⟨y.heap.size,0,none⟩ (.slice a3 r j)) (by kernel_rfl) (lC 6 17 (by kernel_rfl) (by kernel_rfl) (by kernel_rfl) f l) o ?_ aU);refine ai 11 (some 7) (.bool false) (by kernel_rfl) (fun _ _=>by kernel_rfl) (fun _ _ _ h=>h) o ?_
   refine bH (by kernel_rfl) ?_
   simp only[Act.put,List.setIfInBounds_toArray,List.set_cons_zero,List.set_cons_succ];have d:=aB (And.intro (b3.setCell (i:=0) (.slice a3 r j)) (And.intro (gP q b3 A) (And.intro (gP q b3 p) (And.intro o (C.trans (q.below (B:=w.heap.size) (fun b e=>by omega) C.size))))));have g3:=aB (show w.heap.size<=y.heap.size by omega);clear f l q b3 A hS D p C o I E J;generalize (y.alloc (.cells #[.slice none 0 0] 96)).setCell ⟨y.heap.size,0,none⟩ (.slice a3 r j)=Z at *;go_wp2;go_ret;exact⟨_,_,_,_,_,rfl,Nat.le_refl _,by omega,g3.out,d.out.2.2.2.1.1,d.out.2.2.2.1.2.2,d.out.1,d.out.2.2.1,d.out.2.1,d.out.2.2.2.2⟩
  ·replace hS:=hS.keep D;replace p:=p.keep D;have G:=aj E D;have b3:=aC X [.slice none 0 0] 96
   have T:X.heap.size < (X.alloc (.cells #[.slice none 0 0] 96)).heap.size:=by simp
   refine bP 5 (some 16) 170 #[.pointer (some ⟨m,0,none⟩),.slice a1 t c1] (by kernel_rfl) (by kernel_rfl) (I.out _ _ G p.by) ?_
   rintro R y ⟨v3,rfl,A,z⟩;obtain⟨a3,j,rfl⟩:∃ a3 j,v3=.slice a3 L.length j:=(by obtain⟨a3,j,e,_⟩:=A.by.ex; exact⟨a3,j,e⟩)
   refine⟨_,rfl,hS.keep z,?_⟩;replace hS:=hS.keep z;replace p:=p.keep z;generalize L.length=r at *;refine ai 6 (some 10) (.tuple #[.slice a3 r j,.bool false]) (by kernel_rfl) (fun _ _=>by kernel_rfl) (fun _ _ _ h=>h) hS ?_
   refine ai 7 (some 17) (.slice a3 r j) (by kernel_rfl) (fun _ _=>by kernel_rfl) (fun _ _ _ h=>h) hS ?_
   refine ai 8 (some 18) (.bool false) (by kernel_rfl) (fun _ _=>by kernel_rfl) (fun _ _ _ h=>h) hS ?_
   have C:=aj G z;replace b3:=b3.keep z;replace A:=A.mono (D':=(w.heap.size <= ·)) (fun b _ h=>by have U:(X.alloc (.cells #[.slice none 0 0] 96)).heap.size<=b:=h; omega);have f:=b3.cell (i:=0) rfl;have l:=b3.free 0
   have q:Chg (· = X.heap.size) (y) ((y).setCell ⟨X.heap.size,0,none⟩ (.slice a3 r j)):=(Chg.refl (· = X.heap.size) (y)).cell (.inl rfl) _
   have o:Rds g m w.heap.size s.heap.size jv n (.slice a1 t c1) ((y).setCell ⟨X.heap.size,0,none⟩ (.slice a3 r j)):=⟨hS.1.chg q (by omega),hS.2.1.chg q (by omega),hS.2.2.chg q (by omega)⟩
   refine aL [10] (by kernel_rfl) (by simp) (dn 10 ((y).setCell ⟨X.heap.size,0,none⟩ (.slice a3 r j)) (by kernel_rfl) (lC 6 17 (by kernel_rfl) (by kernel_rfl) (by kernel_rfl) f l) o ?_ aU);refine ai 11 (some 7) (.bool false) (by kernel_rfl) (fun _ _=>by kernel_rfl) (fun _ _ _ h=>h) o ?_
   refine bH (by kernel_rfl) ?_
   simp only[Act.put,List.setIfInBounds_toArray,List.set_cons_zero,List.set_cons_succ];have d:=aB (And.intro (b3.setCell (i:=0) (.slice a3 r j)) (And.intro (gP q b3 A) (And.intro (gP q b3 p) (And.intro o (C.trans (q.below (B:=w.heap.size) (fun b e=>by omega) C.size))))));have g3:=aB (show w.heap.size<=X.heap.size by omega);clear f l q b3 A hS D p C o I E J;generalize (y).setCell ⟨X.heap.size,0,none⟩ (.slice a3 r j)=Z at *;go_wp2;go_ret;exact⟨_,_,_,_,_,rfl,Nat.le_refl _,by omega,g3.out,d.out.2.2.2.1.1,d.out.2.2.2.1.2.2,d.out.1,d.out.2.2.1,d.out.2.1,d.out.2.2.2.2⟩
 ·go_enter Tryz.func145,Tryz.ntmps145;go_wp2_with (go_at_call 78; refine t1.mono ?_; rintro e s ⟨v1,rfl,p,F⟩; obtain⟨a1,c1,rfl⟩:∃ a1 c1,v1=.slice a1 k.length c1:=(by obtain⟨a1,c1,e,_⟩:=p.by.ex; exact⟨a1,c1,e⟩));rw[hln] at p;have M:=F.size;have x:=ae s (.cells #[.slice a1 t c1] 96)
  have hS:Rds g m w.heap.size s.heap.size jv n (.slice a1 t c1) (s.alloc (.cells #[.slice a1 t c1] 96)).drew:=⟨((K.keep F).keep x).drew,(((J.out.keep al).keep F).keep x).drew,(aC s [.slice a1 t c1] 96).drew⟩
  have E:Below w.heap.size w (s.alloc (.cells #[.slice a1 t c1] 96)).drew:=aj (aj (aj al F) x) ⟨rfl,rfl,rfl,Nat.le_refl _,fun _ _=>rfl⟩
  have O:s.heap.size < (s.alloc (.cells #[.slice a1 t c1] 96)).drew.heap.size:=by show _ < (s.alloc _).heap.size; simp
  replace p:=((p.mono (D':=(w.heap.size <= ·)) (fun b _ h=>by omega)).keep x).keep (w':=(s.alloc (.cells #[.slice a1 t c1] 96)).drew) ⟨rfl,rfl,rfl,Nat.le_refl _,fun _ _=>rfl⟩;clear t1 x K al;clear F;refine bU (S:=Rds g m w.heap.size s.heap.size jv n (.slice a1 t c1)) (by kernel_rfl) hS ?_
  generalize (s.alloc (.cells #[.slice a1 t c1] 96)).drew=X at *;refine aP 0 (some 11) (.pointer (some ⟨g,0,none⟩)) 37 2 w.heap.size 0 (by kernel_rfl) (by kernel_rfl) (by kernel_rfl) (fun w' h=>Eb (h.1.cell (i:=0) rfl)) (fun _ _ _ h=>h) hS ?_
  refine ai 1 (some 12) (.pointer (some ⟨g,0,none⟩)) (by kernel_rfl) (fun _ _=>by kernel_rfl) (fun _ _ _ h=>h) hS ?_
  refine ai 2 (some 13) (.pointer (some ⟨g,0,none⟩)) (by kernel_rfl) (fun _ _=>by kernel_rfl) (fun _ _ _ h=>h) hS ?_
  refine aP 3 (some 14) (.pointer (some ⟨m,0,none⟩)) 86 13 g 0 (by kernel_rfl) (by kernel_rfl) (by kernel_rfl) (fun w' h=>xi (h.2.1.cell (i:=0) rfl)) (fun _ _ _ h=>h) hS ?_
  refine aP 4 (some 15) (.slice a1 t c1) 96 5 s.heap.size 0 (by kernel_rfl) (by kernel_rfl) (by kernel_rfl) (fun w' h=>DX (h.2.2.cell (i:=0) rfl)) (fun _ _ _ h=>h) hS ?_
  have D:=ae X (.cells #[.slice none 0 0] 96);refine aL [5,9] (by kernel_rfl) (by simp) (vi 5 (some 16) 170 #[.pointer (some ⟨m,0,none⟩),.slice a1 t c1] (by kernel_rfl) (by kernel_rfl) (I.out _ _ E p.by) ?_ (bI 9 (some 6) (.pointer (some ⟨X.heap.size,0,none⟩)) (X.alloc (.cells #[.slice none 0 0] 96)) (by kernel_rfl) (by kernel_rfl) (hS.keep D) ?_ aU))
  ·rintro R y ⟨v3,rfl,A,z⟩;obtain⟨a3,j,rfl⟩:∃ a3 j,v3=.slice a3 L.length j:=(by obtain⟨a3,j,e,_⟩:=A.by.ex; exact⟨a3,j,e⟩)
   refine⟨_,rfl,hS.keep z,?_⟩;replace hS:=hS.keep z;replace p:=p.keep z;generalize L.length=r at *;refine ai 6 (some 10) (.tuple #[.slice a3 r j,.bool true]) (by kernel_rfl) (fun _ _=>by kernel_rfl) (fun _ _ _ h=>h) hS ?_
   refine ai 7 (some 17) (.slice a3 r j) (by kernel_rfl) (fun _ _=>by kernel_rfl) (fun _ _ _ h=>h) hS ?_
   refine ai 8 (some 18) (.bool true) (by kernel_rfl) (fun _ _=>by kernel_rfl) (fun _ _ _ h=>h) hS ?_
   have C:=aj E z;have N:=z.size;refine aL [9] (by kernel_rfl) (by simp) (bI 9 (some 6) (.pointer (some ⟨y.heap.size,0,none⟩)) (y.alloc (.cells #[.slice none 0 0] 96)) (by kernel_rfl) (by kernel_rfl) (hS.keep (ae y _)) ?_ aU);have H:=ae y (.cells #[.slice none 0 0] 96);replace hS:=hS.keep H;replace p:=p.keep H;replace A:=(A.mono (D':=(w.heap.size <= ·)) (fun b _ h=>by have U:X.heap.size<=b:=h; omega)).keep H;have b3:=aC y [.slice none 0 0] 96;replace C:=aj C H;have f:=b3.cell (i:=0) rfl;have l:=b3.free 0
   have q:Chg (· = y.heap.size) (y.alloc (.cells #[.slice none 0 0] 96)) ((y.alloc (.cells #[.slice none 0 0] 96)).setCell ⟨y.heap.size,0,none⟩ (.slice a3 r j)):=(Chg.refl (· = y.heap.size) (y.alloc (.cells #[.slice none 0 0] 96))).cell (.inl rfl) _
   have o:Rds g m w.heap.size s.heap.size jv n (.slice a1 t c1) ((y.alloc (.cells #[.slice none 0 0] 96)).setCell ⟨y.heap.size,0,none⟩ (.slice a3 r j)):=⟨hS.1.chg q (by omega),hS.2.1.chg q (by omega),hS.2.2.chg q (by omega)⟩
   refine aL [10] (by kernel_rfl) (by simp) (dn 10 ((y.alloc (.cells #[.slice none 0 0] 96)).setCell ⟨y.heap.size,0,none⟩ (.slice a3 r j)) (by kernel_rfl) (lC 6 17 (by kernel_rfl) (by kernel_rfl) (by kernel_rfl) f l) o ?_ aU);refine ai 11 (some 7) (.bool true) (by kernel_rfl) (fun _ _=>by kernel_rfl) (fun _ _ _ h=>h) o ?_
   refine bH (by kernel_rfl) ?_
   simp only[Act.put,List.setIfInBounds_toArray,List.set_cons_zero,List.set_cons_succ];have d:=aB (And.intro (b3.setCell (i:=0) (.slice a3 r j)) (And.intro (gP q b3 A) (And.intro (gP q b3 p) (And.intro o (C.trans (q.below (B:=w.heap.size) (fun b e=>by omega) C.size))))));have g3:=aB (show w.heap.size<=y.heap.size by omega);clear f l q b3 A hS D p C o I E J;generalize (y.alloc (.cells #[.slice none 0 0] 96)).setCell ⟨y.heap.size,0,none⟩ (.slice a3 r j)=Z at *;go_wp2;go_ret;exact⟨_,_,_,_,_,rfl,Nat.le_refl _,by omega,g3.out,d.out.2.2.2.1.1,d.out.2.2.2.1.2.2,d.out.1,d.out.2.2.1,d.out.2.1,d.out.2.2.2.2⟩
  ·replace hS:=hS.keep D;replace p:=p.keep D;have G:=aj E D;have b3:=aC X [.slice none 0 0] 96
   have T:X.heap.size < (X.alloc (.cells #[.slice none 0 0] 96)).heap.size:=by simp
   refine bP 5 (some 16) 170 #[.pointer (some ⟨m,0,none⟩),.slice a1 t c1] (by kernel_rfl) (by kernel_rfl) (I.out _ _ G p.by) ?_
   rintro R y ⟨v3,rfl,A,z⟩;obtain⟨a3,j,rfl⟩:∃ a3 j,v3=.slice a3 L.length j:=(by obtain⟨a3,j,e,_⟩:=A.by.ex; exact⟨a3,j,e⟩)
   refine⟨_,rfl,hS.keep z,?_⟩;replace hS:=hS.keep z;replace p:=p.keep z;generalize L.length=r at *;refine ai 6 (some 10) (.tuple #[.slice a3 r j,.bool true]) (by kernel_rfl) (fun _ _=>by kernel_rfl) (fun _ _ _ h=>h) hS ?_
   refine ai 7 (some 17) (.slice a3 r j) (by kernel_rfl) (fun _ _=>by kernel_rfl) (fun _ _ _ h=>h) hS ?_
   refine ai 8 (some 18) (.bool true) (by kernel_rfl) (fun _ _=>by kernel_rfl) (fun _ _ _ h=>h) hS ?_
   have C:=aj G z;replace b3:=b3.keep z;replace A:=A.mono (D':=(w.heap.size <= ·)) (fun b _ h=>by have U:(X.alloc (.cells #[.slice none 0 0] 96)).heap.size<=b:=h; omega);have f:=b3.cell (i:=0) rfl;have l:=b3.free 0
   have q:Chg (· = X.heap.size) (y) ((y).setCell ⟨X.heap.size,0,none⟩ (.slice a3 r j)):=(Chg.refl (· = X.heap.size) (y)).cell (.inl rfl) _
   have o:Rds g m w.heap.size s.heap.size jv n (.slice a1 t c1) ((y).setCell ⟨X.heap.size,0,none⟩ (.slice a3 r j)):=⟨hS.1.chg q (by omega),hS.2.1.chg q (by omega),hS.2.2.chg q (by omega)⟩
   refine aL [10] (by kernel_rfl) (by simp) (dn 10 ((y).setCell ⟨X.heap.size,0,none⟩ (.slice a3 r j)) (by kernel_rfl) (lC 6 17 (by kernel_rfl) (by kernel_rfl) (by kernel_rfl) f l) o ?_ aU);refine ai 11 (some 7) (.bool true) (by kernel_rfl) (fun _ _=>by kernel_rfl) (fun _ _ _ h=>h) o ?_
   refine bH (by kernel_rfl) ?_
   simp only[Act.put,List.setIfInBounds_toArray,List.set_cons_zero,List.set_cons_succ];have d:=aB (And.intro (b3.setCell (i:=0) (.slice a3 r j)) (And.intro (gP q b3 A) (And.intro (gP q b3 p) (And.intro o (C.trans (q.below (B:=w.heap.size) (fun b e=>by omega) C.size))))));have g3:=aB (show w.heap.size<=X.heap.size by omega);clear f l q b3 A hS D p C o I E J;generalize (y).setCell ⟨X.heap.size,0,none⟩ (.slice a3 r j)=Z at *;go_wp2;go_ret;exact⟨_,_,_,_,_,rfl,Nat.le_refl _,by omega,g3.out,d.out.2.2.2.1.1,d.out.2.2.2.1.2.2,d.out.1,d.out.2.2.1,d.out.2.1,d.out.2.2.2.2⟩
end
end Kv
end
section
namespace Kv
open Go.RowKit Go.Lib Pg
section
variable {w:World} {b n c i:Nat} {xs:List Value}
end
end Kv
end
section
namespace Kv
open Go.RowKit Go.Lib Pg
attribute [local go_sem] Oper.semAt_some
section
variable {w:World}{V D:Nat->Prop}{g:Nat}{j:Jr}{cs':List Value}{bv jv:Value}{l:List Nat}{o:Option Nat}{Q:List (List KV)}{T0:List Jr}
theorem qw(ao:Option Addr)(n c:Nat)(hn:n<=c)(bo:Option Addr)(c':Nat):(Builtin.append_ #[270,270] 270 #[.slice ao n c,.slice bo 0 c']).run Tryz.prog w=.ok (.slice ao n c) w:=by
 obtain⟨i,hi,d,hs,hb⟩:=info_parts KF.inf;have:(Builtin.firstCells i.size 0 (.slice bo 0 c')).run Tryz.prog w=.ok #[] w:=by
  cases bo with
  | none=>rfl
  | some a=>exact run_firstCells_some w i.size 0 a 0 c' [] (by simp) (fun j v b=>by simp at b)
 cases ao with
 | none=>simp[Builtin.append_,run_underlying KF.und,sizeOf,typeInfo,hi,Builtin.lenOf,this,hn]
 | some a=>simp[Builtin.append_,run_underlying KF.und,sizeOf,typeInfo,hi,Builtin.lenOf,this,hn,storeCells]
def Lies(w:World)(bv:Value)(cs:List Value):Prop:=(bv=.slice none 0 0/\cs=[])\/∃ a c,bv=.slice (some a) cs.length c/\∀ i x,cs[i]? = some x->w.cell? (a.add i)=some x
theorem yq{t:List Und}(H:JrA w V D g j)(hC:iF w V D g t cs')(hb:Lies w bv cs')(hlen:j.U.length + t.length<=1000000000) :
  ∃ v' o' w',(Builtin.append_ #[270,270] 270 #[j.v,bv]).run Tryz.prog w=.ok v' w'/\(∃ ao n c,v'=.slice ao n c)/\JrA w' V D g ⟨j.U ++ t,v',o'⟩/\(∀ b,o'=some b->j.o=some b\/b=w.heap.size)/\Chg (fun b=>j.o=some b) w w':=by
 obtain⟨cs,hc,F⟩:=H;have d:=hC.1;by_cases B:t=[]
 ·subst B
  have m:cs'=[]:=List.eq_nil_of_length_eq_zero (by rw[d]; rfl);subst m;obtain⟨u,l,rfl⟩:∃ u l,bv=.slice u 0 l:=by
   rcases hb with⟨e,_⟩ | ⟨a,c,e,_⟩
   ·exact⟨none,0,e⟩
   ·exact⟨some a,c,e⟩
  rcases F with⟨e1,e2,e3⟩ | ⟨b,c,e1,e2,hR⟩
  ·refine⟨_,j.o,w,by rw[e2]; exact qw none 0 0 (Nat.le_refl _) u l,⟨none,0,0,rfl⟩,⟨cs,by simpa using hc,.inl ⟨e1,rfl,by simpa using e3⟩⟩,fun b h=>.inl h,Chg.refl _ _⟩
  ·refine⟨_,j.o,w,by rw[e2]; exact qw _ _ _ hR.le.1 u l,⟨_,_,_,rfl⟩,⟨cs,by simpa using hc,.inr ⟨b,c,e1,by simp,by simpa using hR⟩⟩,fun b h=>.inl h,Chg.refl _ _⟩
 ·obtain⟨a,ca,rfl,f⟩:∃ a c,bv=.slice (some a) cs'.length c/\∀ i x,cs'[i]? = some x->w.cell? (a.add i)=some x:=by
   rcases hb with⟨_,e⟩ | h
   ·rw[e] at d; exact absurd (List.eq_nil_of_length_eq_zero d.symm) B
   ·exact h
  have r:0 < cs'.length:=by rw[d]; exact List.length_pos_iff.2 B
  rcases F with⟨e1,e2,e3⟩ | ⟨b,c,e1,e2,hR⟩
  ·have m:cs=[]:=List.eq_nil_of_length_eq_zero (by rw[hc.1,e3]; rfl);subst m;obtain⟨l,W,A,p,C⟩:=fe (w:=w) KF 270 a cs'.length ca cs' (by simp) f r (by omega) (by omega);refine⟨_,some w.heap.size,W,by rw[e2]; exact A,⟨_,_,_,rfl⟩,⟨cs',?_,.inr ⟨_,l,rfl,by rw[e3,d]; rfl,by rw[e3]; simpa[d] using p⟩⟩,fun b h=>.inr (by cases h; rfl),Chg.of C⟩;rw[e3];exact hC.stay ⟨fun b _ _ _ k _=>C.block b k.lt,fun b G _ _=>C.block b G⟩
  ·obtain⟨E,l,W,A,y,p,q⟩:=dB KF 270 hR a cs'.length ca cs' (by simp) f hC.one (by omega) (by omega);obtain⟨J,z⟩:=hR.kind
   have s:kW V D w W:=lF z (by decide) (by decide) (by decide) q;refine⟨_,some E,W,by rw[e2]; exact A,⟨_,_,_,rfl⟩,⟨cs ++ cs',(hc.stay s).app (hC.stay s),.inr ⟨E,l,rfl,by simp[d],by simpa[d] using p⟩⟩,fun x h => ?_,q.mono (fun x _ e=>by have I:x=b:=e; rw[I,e1])⟩
   cases h;rcases y with e | e
   ·exact .inl (by rw[e1,e])
   ·exact .inr e
theorem ri(T0:List Jr)(j:Jr):tot (T0 ++ [j])=tot T0 + j.U.length:=by simp[tot]
theorem l4 : (l ++ o.toList).Nodup ↔ l.Nodup ∧ ∀ b, o = some b → b ∉ l := by
  cases o with
  | none => simp
  | some x => simp[List.nodup_append]; intro _; constructor
              · intro h hx; exact h x hx rfl
              · intro h a c e; subst e; exact h c
theorem uy(T0:List Jr)(j:Jr):(T0 ++ [j]).filterMap Jr.o=T0.filterMap Jr.o ++ j.o.toList:=by
 rw[List.filterMap_append];congr 1
theorem SX.inner{u:World}{K F:Nat->Prop}{m r:Nat}{j':Jr}{n N N':Nat}(h:SX w K D F V g m Q jv (T0 ++ [j]) (some r) n N)(E:JrA u V D g j')(G:∀ b,j'.o=some b->j.o=some b\/w.heap.size<=b)(H:N<=N')(a:Kv.tot (T0 ++ [j']) + Q.flatten.length<=N')(s:∃ c,jv=.slice (some ⟨r,0,none⟩) (T0 ++ [j]).length c/\Rw u 273 1 r (T0 ++ [j]).length c ((T0 ++ [j']).map Jr.v))(hc:Chg (fun b=>j.o=some b\/b=r) w u) :
  SX u (fun b=>(K b/\¬ j.o=some b)\/j'.o=some b) D F V g m Q jv (T0 ++ [j']) (some r) n N':=by
 have f:j∈T0 ++ [j]:=by simp
 have hx:∀ b cs t,Blk w b cs t->t≠1->t≠273->u.heap[b]? = w.heap[b]? := fun b cs t k p C=>hc.same b k.lt (fun e=>by
  rcases e with e | e
  ·obtain⟨l,q⟩:=(h.jn.each j f).kind e;exact p (k.eq q).2
  ·subst e;obtain⟨l,q⟩:=h.jn.kind rfl
   exact C (k.eq q).2)
 have A:∀ b,(j.o=some b\/b=r)->¬ F b:=fun b e=>e.elim (h.own.nK j f b) (fun e=>by subst e; exact h.own.qY _ rfl)
 have y:kW V D w u:=⟨fun b cs t _ k a=>hx b cs t k (by rcases a with e | e<;>subst e<;>decide) (by rcases a with e | e<;>subst e<;>decide),fun b _ _ k=>by obtain⟨cs,k⟩:=k; exact hx b cs _ k (by decide) (by decide)⟩
 have x:∀ t∈T0 ++ [j],∀ b,t.o=some b->b < w.heap.size:=fun t a b e=>by obtain⟨cs,k⟩:=(h.jn.each t a).kind e; exact k.lt
 have i:=h.jn.apart;rw[uy,l4] at i;refine⟨⟨by rw[hx g _ _ h.blk (by decide) (by decide)]; exact h.blk.blk⟩,h.map.same (fun b hF=>hc.same b (h.map.lt hF) (fun e=>A b e hF)) (fun b _ _ k=>by obtain⟨cs,k⟩:=k; exact hx b cs _ k (by decide) (by decide)) |>.more H,⟨?_,?_,?_⟩,a,by have:=h.len; simp at this ⊢; omega,?_⟩
 ·obtain⟨c,e,z⟩:=s;exact .inr ⟨r,c,rfl,by rw[e]; simp,by simpa using z⟩
 ·intro t a;rcases List.mem_append.1 a with d | d
  ·refine(h.jn.each t (List.mem_append_left _ d)).stay y (fun b e => ?_);refine hc.same b (x t (List.mem_append_left _ d) b e) (fun e2 => ?_);rcases e2 with e2 | e2
   ·exact i.2 b e2 (List.mem_filterMap.2 ⟨t,d,e⟩)
   ·subst e2;obtain⟨cs,k⟩:=(h.jn.each t (List.mem_append_left _ d)).kind e;obtain⟨l,q⟩:=h.jn.kind rfl;exact absurd (k.eq q).2 (by decide)
  ·simp at d; subst d; exact E
 ·rw[uy,l4];refine⟨i.1,fun b e hm => ?_⟩;rcases G b e with p | p
  ·exact i.2 b p hm
  ·obtain⟨t,C,I⟩:=List.mem_filterMap.1 hm;have:=x t (List.mem_append_left _ C) b I;omega
 ·have B:∀ b cs t,Blk w b cs t->t≠1->¬ j.o=some b:=fun b cs t k p e=>by
   obtain⟨l,q⟩:=(h.jn.each j f).kind e;exact p (k.eq q).2
  refine⟨.inl ⟨h.own.top,B g _ _ h.blk (by decide)⟩,fun b hb=>.inl ⟨h.own.map b hb,fun e=>h.own.nK j f b e hb⟩,fun b hb => ?_,fun b hb => ?_,fun t a b e => ?_,fun b hb => ?_,h.own.pO,h.own.sG,h.own.qY,fun t a b e => ?_,fun b hv=>by
   obtain⟨cs,t,k,a⟩:=h.own.vk b hv
   exact⟨cs,t,k.same (y.var b cs t hv k a),a⟩⟩
  ·obtain⟨cs,t,k,a⟩:=h.own.vk b hb;exact .inl ⟨h.own.var b hb,B b cs t k (by rcases a with e | e<;>subst e<;>decide)⟩
  ·cases hb;obtain⟨l,q⟩:=h.jn.kind rfl;exact .inl ⟨h.own.jrn _ rfl,B _ _ _ q (by decide)⟩
  ·rcases List.mem_append.1 a with d | d
   ·exact .inl ⟨h.own.bck t (List.mem_append_left _ d) b e,fun e2=>i.2 b e2 (List.mem_filterMap.2 ⟨t,d,e⟩)⟩
   ·simp at d; subst d; exact .inr e
  ·rcases hb with⟨hb,hn⟩ | hb
   ·by_cases e:b=r
    ·subst e;obtain⟨c,_,z⟩:=s;obtain⟨cs,k⟩:=z.kind;exact⟨cs,_,k,by decide⟩
    ·obtain⟨cs,t,k,a⟩:=h.own.kind b hb;exact⟨cs,t,k.chg hc (fun e2=>e2.elim hn e),a⟩
   ·obtain⟨cs,k⟩:=E.kind hb;exact⟨cs,_,k,by decide⟩
  ·rcases List.mem_append.1 a with d | d
   ·exact h.own.nK t (List.mem_append_left _ d) b e
   ·simp at d; subst d;rcases G b e with p | p
    ·exact h.own.nK j f b p
    ·intro hF;have:=h.map.lt hF;omega
end
end Kv
end
section
namespace Kv
open Go.RowKit Go.Lib Pg
attribute [local go_sem] Oper.semAt_some
section
variable {w:World}{V D:Nat->Prop}{g:Nat}{jv bv:Value}{T0:List Jr}{j:Jr}{oj:Option Nat}{Q:List (List KV)}{cs':List Value}
theorem vV(T0:List Jr)(j j':Jr):((T0 ++ [j]).map Jr.v).set T0.length j'.v=(T0 ++ [j']).map Jr.v:=by
 rw[List.map_append,List.map_append,List.set_append_right _ _ (by simp)];simp
theorem JnA.last(h:JnA w V D g jv (T0 ++ [j]) oj):∃ jb c,oj=some jb/\jv=.slice (some ⟨jb,0,none⟩) (T0.length + 1) c/\Rw w 273 1 jb (T0.length + 1) c ((T0 ++ [j]).map Jr.v):=by
 rcases h.row with⟨_,_,e⟩ | ⟨b,c,e1,e2,hR⟩
 ·exact absurd e (by simp)
 ·exact⟨b,c,e1,by rw[e2]; simp,by simpa using hR⟩
theorem xnote{K F:Nat->Prop}{m:Nat}{n N:Nat}{r:List Und}(h:SX w K D F V g m Q jv (T0 ++ [j]) oj n N)(hC:iF w V D g r cs')(hb:Lies w bv cs'){N':Nat}(P:N<=N')(C:Kv.tot (T0 ++ [j]) + r.length + Q.flatten.length<=N')(hN3:N'<=1000000000) :
  Calls Tryz.prog 144 #[.pointer (some ⟨g,0,none⟩),bv] w fun e w'=>e=.returned (.tuple #[])/\∃ K' j',j'.U=j.U ++ r/\SX w' K' D F V g m Q jv (T0 ++ [j']) oj n N'/\(∀ b,K' b->K b\/w.heap.size<=b)/\Chg K w w':=by
 have hlen:j.U.length + r.length<=1000000000:=by rw[ri] at C; omega
 obtain⟨f,c,rfl,rfl,A⟩:=h.jn.last;obtain⟨v',M,G,hr,⟨t,s,u,rfl⟩,S,Y,x⟩:=yq (h.jn.each j (by simp)) hC hb hlen
 have l:j∈T0 ++ [j]:=by simp
 have ud:=oE h.blk;have c1:=h.blk.cell (i:=1) rfl;have z:=A.cell (i:=T0.length) (v:=j.v) (by simp)
 have B:¬ j.o=some f:=fun e=>by
  obtain⟨cs,k⟩:=(h.jn.each j l).kind e;obtain⟨cs',R⟩:=A.kind;exact absurd (k.eq R).2 (by decide)
 have d:=A.chg x B;have p:=d.cell (i:=T0.length) (v:=j.v) (by simp);have H:=d.free T0.length;have hle:=A.le
 have T:∃ a1 Z c1,j.v=.slice a1 Z c1:=by
  obtain⟨cs,_,⟨_,e,_⟩ | ⟨b,c,_,e,_⟩⟩:=h.jn.each j l
  ·exact⟨_,_,_,e⟩
  ·exact⟨_,_,_,e⟩
 obtain⟨a1,Z,c2,O⟩:=T;rw[O] at z p hr
 have W:∃ a2 n2 c3,bv=.slice a2 n2 c3:=by
  rcases hb with⟨e,_⟩ | ⟨a,c,e,_⟩
  ·exact⟨_,_,_,e⟩
  ·exact⟨_,_,_,e⟩
 obtain⟨a2,n2,c3,X⟩:=W;subst X
 have hg0:(0:Int) < (T0.length:Int) + 1:=by omega
 have hg1:(T0.length:Int)<=16:=by have:=h.len; simp at this; omega
 have I:Hid (∃ K' j',j'.U=j.U ++ r/\SX (G.setCell ⟨f,T0.length,none⟩ (.slice t s u)) K' D F V g m Q (.slice (some ⟨f,0,none⟩) (T0.length + 1) c) (T0 ++ [j']) (some f) n N'/\(∀ b,K' b->K b\/w.heap.size<=b)/\Chg K w (G.setCell ⟨f,T0.length,none⟩ (.slice t s u))):=by
  have E:Chg (fun b=>j.o=some b\/b=f) w (G.setCell ⟨f,T0.length,none⟩ (.slice t s u)):=(x.mono (fun b _ e=>.inl e)).cell (.inl (.inr rfl)) _;obtain⟨cs,kj⟩:=d.kind
  have J:JrA (G.setCell ⟨f,T0.length,none⟩ (.slice t s u)) V D g ⟨j.U ++ r,.slice t s u,M⟩:=S.stay (lF kj (by decide) (by decide) (by decide) ((Chg.refl (· = f) G).cell (.inl rfl) _)) (fun b e=>by
   have L:b≠f:=fun e2=>by
    subst e2;obtain⟨cs',R⟩:=S.kind e;exact absurd (R.eq kj).2 (by decide)
   exact Below.heap_setCell _ _ _ _ L)
  have hS:=h.inner (j':=⟨j.U ++ r,.slice t s u,M⟩) J (fun b e=>(Y b e).imp id (fun e=>by omega)) (N':=N') P (by rw[ri] at C ⊢; simp only[List.length_append]; omega) ⟨c,by simp,by
   have:=d.set T0.length (by simp) (.slice t s u);rw[vV T0 j ⟨j.U ++ r,.slice t s u,M⟩] at this
   simpa using this⟩ E
  refine⟨_,_,rfl,hS,fun b hb => ?_,E.mono (fun b _ e => ?_)⟩
  ·rcases hb with hb | hb
   ·exact .inl hb.1
   ·rcases Y b hb with e | e
    ·exact .inl (h.own.bck j l b e)
    ·exact .inr (by omega)
  ·rcases e with e | e
   ·exact h.own.bck j l b e
   ·subst e; exact h.own.jrn _ rfl
 clear h hC hb A d S Y x B hlen;generalize T0.length=q at *;go_enter Tryz.func144,Tryz.ntmps144;go_wp2_with first
  | (go_at_call 143; go_must (refine ud.mono ?_); rintro e y ⟨rfl,hy⟩; replace hy:=hy.symm; subst hy)
  | (at_builtin; refine Lib.wpList_append_run _ rfl _ _ _ _ rfl _ _ rfl rfl _ _ hr ?_)
 go_end0;exact⟨rfl,I.out⟩
end
end Kv
end
section
namespace Kv
open Go.RowKit Go.Lib Pg
attribute [local go_sem] Oper.semAt_some
section
variable {w:World}{K D F V:Nat->Prop}{g m n N:Nat}{Q:List (List KV)}{jv kv:Value}{T T0:List Jr}{oj:Option Nat}{k:List Int}
theorem vU(h:SX w K D F V g m Q jv T oj n N)(o:By w kv k)(a:k.length<=1000000000)(s:N<=100000000) :
  Calls Tryz.prog 145 #[.pointer (some ⟨g,0,none⟩),kv] w fun e w'=>∃ (c:Value) (S:Nat->Prop),e=.returned c/\(∃ f cap,c=.func (.func f) #[] cap)/\SX w' (fun b=>K b\/S b) (fun b=>D b\/w.heap.size<=b) F (fun b=>V b\/S b) g m Q jv T oj n N/\nm w' (fun b=>V b\/S b) (fun b=>D b\/w.heap.size<=b) g (k,look Q.flatten k) c/\(∀ b,S b->w.heap.size<=b)/\Below w.heap.size w w':=by
 refine(pI (there:=(look Q.flatten k).isSome) (L:=(look Q.flatten k).getD []) h.blk o a (fun w' l r p=>(jR (h.keep r) p s).mono fun e q h=>h)).mono ?_
 rintro e w' ⟨s1,s2,s3,v1,v3,rfl,g1,g2,g3,i,b2,b3,j,d,B⟩
 have hX:=(h.keep B).vars (S:=fun b=>b=s1\/b=s2\/b=s3) (fun b hb hF=>by have:=h.map.lt hF; rcases hb with rfl | rfl | rfl<;>omega) (fun b hb=>by
  rcases hb with rfl | rfl | rfl
  ·exact⟨_,_,i,.inl rfl⟩
  ·exact⟨_,_,b2,.inr rfl⟩
  ·exact⟨_,_,b3,.inr rfl⟩) (D':=fun b=>D b\/w.heap.size<=b) (fun _ _ h=>.inl h)
 refine⟨_,fun b=>b=s1\/b=s2\/b=s3,rfl,⟨_,_,rfl⟩,hX,⟨⟨a,fun x hx => ?_⟩,s1,s2,v1,.inr (.inl rfl),.inr (.inr (.inl rfl)),i,b2,j.mono (fun _ _ h=>.inr h),?_⟩,(fun b hb=>by rcases hb with rfl | rfl | rfl<;>assumption),B⟩
 ·exact(h.map.small _ (jh hx)).2
 ·cases hl:look Q.flatten k with
  | none=>exact .inl ⟨rfl,by simp⟩
  | some x=>exact .inr ⟨s3,v3,x,.inr (.inr (.inr rfl)),b3,by rw[hl] at d; exact d.mono (fun _ _ h=>.inr h),rfl,by simp⟩
theorem mV(h:SX w K D F V g m Q jv [] oj n N) :
  Calls Tryz.prog 96 #[.pointer (some ⟨g,0,none⟩),kv] w fun e w'=>e=.returned (.tuple #[])/\w'=w:=by
 have b:=x8 h;clear h;go_enter Tryz.func96,Tryz.ntmps96;go_wp2_with (go_at_call 143; go_must (refine b.mono ?_); rintro e y ⟨rfl,hy⟩; replace hy:=hy.symm; subst hy);go_end0;exact⟨rfl,rfl⟩
theorem oJ{j:Jr}(h:SX w K D F V g m Q jv (T0 ++ [j]) oj n N)(r:By w kv k)(o:k.length<=1000000000)(H:N<=100000000) :
  Calls Tryz.prog 96 #[.pointer (some ⟨g,0,none⟩),kv] w fun e w'=>e=.returned (.tuple #[])/\∃ K' V' j',j'.U=j.U ++ [(k,look Q.flatten k)]/\SX w' K' (fun b=>D b\/w.heap.size<=b) F V' g m Q jv (T0 ++ [j']) oj n (N + 1)/\(∀ b,K' b->K b\/w.heap.size<=b)/\Chg K w w':=by
 have A:=x8 h;have B:=vU h r o H;obtain⟨J,c,rfl,-⟩:=id r.ex;generalize k.length=kn at *
 have s:(0:Int) < ((T0 ++ [j]).length:Int):=by simp
 have M:Hid (∀ b,K b->b < w.heap.size):=fun b hb=>by obtain⟨cs,t,k,_⟩:=h.own.kind b hb; exact k.lt
 clear h r;generalize (T0 ++ [j]).length=tl at *;go_enter Tryz.func96,Tryz.ntmps96;go_wp2_with first
  | (go_at_call 143; go_must (refine A.mono ?_); rintro e y ⟨rfl,hy⟩; replace hy:=hy.symm; subst hy)
  | (go_at_call 145; go_must (refine B.mono ?_); rintro e d ⟨cl,S,rfl,⟨f,cap,rfl⟩,l,z,hS,E⟩; have al:=ae d (.cells #[.func (.func f) #[] cap] 1); have bl:=aC d [.func (.func f) #[] cap] 1; have v:iF (d.alloc (.cells #[.func (.func f) #[] cap] 1)) (fun b=>V b\/S b) (fun b=>D b\/w.heap.size<=b) g [(k,look Q.flatten k)] [.func (.func f) #[] cap]:=⟨rfl,(fun i u c hu hc=>by (have hi:i=0:=(by have:=(List.getElem?_eq_some_iff.1 hu).1; simp at this; omega)); subst hi; simp at hu hc; subst hu; subst hc; exact z.stay ⟨fun b _ _ _ k _=>al.block b k.lt,fun b s _ _=>al.block b s⟩)⟩; have C:Lies (d.alloc (.cells #[.func (.func f) #[] cap] 1)) (.slice (some ⟨d.heap.size,0,none⟩) 1 1) [.func (.func f) #[] cap]:=.inr ⟨_,1,rfl,(fun i x hx=>by (have hi:i=0:=(by have:=(List.getElem?_eq_some_iff.1 hx).1; simp at this; omega)); subst hi; simp at hx; subst hx; exact bl.cell (i:=0) rfl)⟩; have un:=xnote (N':=N + 1) (l.keep al) v C (by omega) (by have:=l.tot; simp only[List.length_cons,List.length_nil]; omega) (by omega); clear l z v C bl A B)
  | (go_at_call 144; go_must (refine un.mono ?_); rintro e L ⟨rfl,K',j',q,I,p,hC⟩; clear un)
 go_end0;refine⟨rfl,K',_,j',q,I,fun b hb => ?_,?_⟩
 ·rcases p b hb with(h1 | h1) | h1
  ·exact .inl h1
  ·exact .inr (hS b h1)
  ·exact .inr (by have:=E.size; have:=al.size; omega)
 ·have G:=aj E al;exact(Chg.of (F:=K) G).trans hC (fun b hb e=>e.elim id (fun e=>by have:=hS b e; omega))
def BK(w:World)(K:Nat->Prop)(kv:Value)(k:List Int):Prop:=∀ w',Chg K w w'->By w' kv k
theorem BK.by(h:BK w K kv k):By w kv k:=h w (Chg.refl _ _)
theorem BK.shape(h:BK w K kv k):∃ ao c,kv=.slice ao k.length c:=by
 obtain⟨ao,c,e,_⟩:=h.by.ex
 exact⟨ao,c,e⟩
theorem ff{w1 w2:World}(h:Chg K w w1)(h':Chg K w1 w2):Chg K w w2:=h.trans h' (fun _ _ h=>h)
end
end Kv
end
section
namespace Kv
open Go.RowKit Go.Lib Pg
attribute [local go_sem] Oper.semAt_some
section
variable {T0 T:List Jr}{j:Jr}{W:List aE}{E E':aE}{w w':World}{K D F V:Nat->Prop}{g m n N:Nat}{Q:List (List KV)}{jv kv vv:Value}{oj:Option Nat}{k v:List Int}
theorem og{j':Jr}{u:Und}(h:ku ((T0 ++ [j]).reverse.map Jr.U) W E)(a:j'.U=j.U ++ [u])(hu:Ay E' u=E):ku ((T0 ++ [j']).reverse.map Jr.U) W E':=by
 rw[List.reverse_append] at h ⊢;simp only[List.reverse_cons,List.reverse_nil,List.nil_append,List.cons_append,List.map_cons] at h ⊢
 cases W with
 | nil=>exact h.elim
 | cons e W=>exact⟨by rw[a,ua,hu]; exact h.1,h.2⟩
theorem rj(h:ku [] W E):ku [] W E':=by
 cases W with
 | nil=>trivial
 | cons e W=>exact h.elim
def iW(k v:List Int):Int:=if k.length=0\/64 < k.length then 60 else if 4096 < v.length then 61 else 0
def Ends(w:World)(K D:Nat->Prop)(g:Nat)(E:aE)(W:List aE)(n N:Nat)(r:Value)(e:Ending)(w':World):Prop:=e=.returned r/\∃ K',SA w' K' (fun b=>D b\/w.heap.size<=b) g E W n N/\(∀ b,K' b->K b\/w.heap.size<=b)/\Chg K w w'
theorem SX.kg(h:SX w K D F V g m Q jv T oj n N)(hc:Chg (· = g) w w'):Chg K w w':=hc.mono (fun b _ e=>by have e':b=g:=e; subst e'; exact h.own.top)
theorem wC(h:SA w K D g E W n N)(f:BK w K kv k)(hv:BK w K vv v)(hn:n<=4000000000000000000)(z:k.length=0) :
  Calls Tryz.prog 64 #[.pointer (some ⟨g,0,none⟩),kv,vv] w (Ends w K D g E W (n + 1) (N + 2) (.int .i64 60)):=by
 obtain⟨F,V,m,Q,B,T,t,hX,i,j⟩:=h.open;obtain⟨s,c,rfl⟩:=f.shape;obtain⟨x,d,rfl⟩:=hv.shape;have u:=fS hX hn;have r:=aB hX;have q:=aB i;have o:=aB j;generalize k.length=kn at *;generalize v.length=A at *
 have g0:(kn:Int)=0:=by omega
 clear hX i j h f hv;go_enter Tryz.func64,Tryz.ntmps64;go_wp2_with (go_at_call 95; go_must (refine u.mono ?_); rintro e y ⟨rfl,l,p⟩);go_ret;exact⟨rfl,K,(l.shut q.out o.out).more (by omega) |>.mono (fun _ _ h=>.inl h),fun b h=>.inl h,r.out.kg p⟩
theorem vO(h:SA w K D g E W n N)(f:BK w K kv k)(hv:BK w K vv v)(hn:n<=4000000000000000000)(A:¬ k.length=0)(t:64 < k.length) :
  Calls Tryz.prog 64 #[.pointer (some ⟨g,0,none⟩),kv,vv] w (Ends w K D g E W (n + 1) (N + 2) (.int .i64 60)):=by
 obtain⟨F,V,m,Q,C,T,x,hX,i,j⟩:=h.open;obtain⟨s,c,rfl⟩:=f.shape;obtain⟨y,d,rfl⟩:=hv.shape;have u:=fS hX hn;have r:=aB hX;have q:=aB i;have o:=aB j;generalize k.length=kn at *;generalize v.length=B at *
 have g0:((kn:Int)=0)=False:=eq_false (by omega)
 have g1:(64:Int) < kn:=by omega
 clear hX i j h f hv;go_enter Tryz.func64,Tryz.ntmps64;go_wp2_with (go_at_call 95; go_must (refine u.mono ?_); rintro e z ⟨rfl,l,p⟩);go_ret;exact⟨rfl,K,(l.shut q.out o.out).more (by omega) |>.mono (fun _ _ h=>.inl h),fun b h=>.inl h,r.out.kg p⟩
theorem yi(h:SA w K D g E W n N)(f:BK w K kv k)(hv:BK w K vv v)(hn:n<=4000000000000000000)(C:¬ k.length=0)(y:¬ 64 < k.length)(t:4096 < v.length) :
  Calls Tryz.prog 64 #[.pointer (some ⟨g,0,none⟩),kv,vv] w (Ends w K D g E W (n + 1) (N + 2) (.int .i64 61)):=by
 obtain⟨F,V,m,Q,G,T,z,hX,i,j⟩:=h.open;obtain⟨x,c,rfl⟩:=f.shape;obtain⟨A,d,rfl⟩:=hv.shape;have u:=fS hX hn;have s:=aB hX;have q:=aB i;have o:=aB j;generalize k.length=kn at *;generalize v.length=r at *
 have g0:((kn:Int)=0)=False:=eq_false (by omega)
 have g1:((64:Int) < kn)=False:=eq_false (by omega)
 have g2:(4096:Int) < r:=by omega
 clear hX i j h f hv;go_enter Tryz.func64,Tryz.ntmps64;go_wp2_with (go_at_call 95; go_must (refine u.mono ?_); rintro e B ⟨rfl,l,p⟩);go_ret;exact⟨rfl,K,(l.shut q.out o.out).more (by omega) |>.mono (fun _ _ h=>.inl h),fun b h=>.inl h,s.out.kg p⟩
theorem AO(hX:SX w K D F V g m Q jv [] oj n N)(B:ku ([].reverse.map Jr.U) W Q.flatten)(s:BK w K kv k)(hv:BK w K vv v)(hn:n<=4000000000000000000)(r:N + 2<=100000000)(H:¬ k.length=0)(l:¬ 64 < k.length)(L:¬ 4096 < v.length) :
  Calls Tryz.prog 64 #[.pointer (some ⟨g,0,none⟩),kv,vv] w (Ends w K D g (put Q.flatten k v) W (n + 1) (N + 2) (.int .i64 0)):=by
 obtain⟨O,c,rfl⟩:=s.shape;obtain⟨P,d,rfl⟩:=hv.shape;have u:=fS hX hn;have x:=aB hX;have M:=aB B;have C:=aB s;have z:=aB hv;have o:=aB (show k.length<=64 by omega);have p:=aB (show v.length<=4096 by omega);replace r:N<=99999998:=by omega
 have G:=r;replace r:N<=100000000:=by omega
 have g0:((k.length:Int)=0)=False:=eq_false (by omega)
 have g1:((64:Int) < k.length)=False:=eq_false (by omega)
 have g2:¬ ((4096:Int) < v.length):=by omega
 clear hX B s hv;obtain⟨kn,t⟩:∃ kn,Hid (k.length=kn):=⟨_,rfl⟩
 obtain⟨A,q⟩:∃ A,Hid (v.length=A):=⟨_,rfl⟩
 rw[t.out] at g0 g1 C H l ⊢;rw[q.out] at g2 z L ⊢;go_enter Tryz.func64,Tryz.ntmps64;go_wp2_with first
  | (go_at_call 95; go_must (refine u.mono ?_); rintro e T ⟨rfl,f,j⟩)
  | (go_at_call 96; go_must (refine(mV f).mono ?_); rintro e y ⟨rfl,hy⟩; replace hy:=hy.symm; subst hy; have c0:=f.blk.cell (i:=0) rfl; have us:=mset f.map (C.out _ (x.out.kg j)) (z.out _ (x.out.kg j)) (by have:=o.out; omega) (by have:=p.out; omega) (by omega))
  | (go_at_call 97; go_must (refine us.mono ?_); rintro e R ⟨rfl,S,I,hF,hC⟩)
 go_ret;have J:=f.mapped (N':=N + 1) (by have:=f.tot; have:=um f.map.ord.flat k v; rw[ix f.map.ord]; omega) I hF (fun _ h=>.inl h) hC;refine⟨rfl,_,((J.shut (E:=put Q.flatten k v) (W:=W) (ix f.map.ord k v) (rj M.out)).more (by omega)).mono (fun b _ hb => ?_),fun b hb => ?_,?_⟩
 ·rcases hb with hb | hb
  ·exact .inl hb
  ·exact .inr (by have:=j.size; omega)
 ·rcases hb with⟨hb,_⟩ | hb
  ·exact .inl hb
  ·rcases hF b hb with l | l
   ·exact .inl (f.own.map b l)
   ·exact .inr (by have:=j.size; omega)
 ·exact ff (x.out.kg j) (hC.mono (fun b _ h=>f.own.map b h))
theorem xE(hX:SX w K D F V g m Q jv (T0 ++ [j]) oj n N)(I:ku ((T0 ++ [j]).reverse.map Jr.U) W Q.flatten)(z:BK w K kv k)(hv:BK w K vv v)(hn:n<=4000000000000000000)(s:N + 2<=100000000)(M:¬ k.length=0)(r:¬ 64 < k.length)(S:¬ 4096 < v.length) :
  Calls Tryz.prog 64 #[.pointer (some ⟨g,0,none⟩),kv,vv] w (Ends w K D g (put Q.flatten k v) W (n + 1) (N + 2) (.int .i64 0)):=by
 obtain⟨Z,c,rfl⟩:=z.shape;obtain⟨bo,d,rfl⟩:=hv.shape;have u:=fS hX hn;have B:=aB hX;have T:=aB I;have C:=aB z;have G:=aB hv;have p:=aB (show k.length<=64 by omega);have t:=aB (show v.length<=4096 by omega);replace s:N<=99999998:=by omega
 have L:=s;replace s:N<=100000000:=by omega
 have g0:((k.length:Int)=0)=False:=eq_false (by omega)
 have g1:((64:Int) < k.length)=False:=eq_false (by omega)
 have g2:¬ ((4096:Int) < v.length):=by omega
 clear hX I z hv;obtain⟨kn,A⟩:∃ kn,Hid (k.length=kn):=⟨_,rfl⟩
 obtain⟨H,x⟩:∃ H,Hid (v.length=H):=⟨_,rfl⟩
 rw[A.out] at g0 g1 C M r ⊢;rw[x.out] at g2 G S ⊢;go_enter Tryz.func64,Tryz.ntmps64;go_wp2_with first
  | (go_at_call 95; go_must (refine u.mono ?_); rintro e w1 ⟨rfl,J,o⟩)
  | (go_at_call 96; go_must (refine(oJ J (C.out _ (B.out.kg o)) (by have:=p.out; omega) s).mono ?_); rintro e w2 ⟨rfl,X,V2,Y,y,f,l,O⟩; have q:=ff (B.out.kg o) O; have c0:=f.blk.cell (i:=0) rfl; have us:=mset f.map (C.out _ q) (G.out _ q) (by have:=p.out; omega) (by have:=t.out; omega) (by omega))
  | (go_at_call 97; go_must (refine us.mono ?_); rintro e w3 ⟨rfl,F',P,hF,hC⟩)
 go_ret;have R:=f.mapped (N':=N + 1 + 1) (by have:=f.tot; have:=um f.map.ord.flat k v; rw[ix f.map.ord]; omega) P hF (fun _ h=>.inl h) hC;refine⟨rfl,_,((R.shut (E:=put Q.flatten k v) (W:=W) (ix f.map.ord k v) (og T.out y (xz B.out.map.ord.flat k v))).more (by omega)).mono (fun b _ hb => ?_),fun b hb => ?_,?_⟩
 ·rcases hb with(hb | hb) | hb
  ·exact .inl hb
  ·exact .inr (by have:=o.size; omega)
  ·exact .inr (by have:=q.size; omega)
 ·rcases hb with⟨hb,_⟩ | hb
  ·exact(l b hb).imp id (fun h=>by have:=o.size; omega)
  ·rcases hF b hb with r | r
   ·exact(l b (f.own.map b r)).imp id (fun h=>by have:=o.size; omega)
   ·exact .inr (by have:=q.size; omega)
 ·exact q.trans hC (fun b hb h=>(l b (f.own.map b h)).elim id (fun h=>by have:=o.size; omega))
theorem sset(h:SA w K D g E W n N)(c:BK w K kv k)(hv:BK w K vv v)(hn:n<=4000000000000000000)(i:N + 2<=100000000) :
  Calls Tryz.prog 64 #[.pointer (some ⟨g,0,none⟩),kv,vv] w (Ends w K D g (if iW k v=0 then put E k v else E) W (n + 1) (N + 2) (.int .i64 (iW k v))):=by
 by_cases a:k.length=0
 ·have e:iW k v=60:=by unfold iW; rw[if_pos (.inl a)]
  rw[e,if_neg (by decide)]; exact wC h c hv hn a
 ·by_cases d:64 < k.length
  ·have e:iW k v=60:=by unfold iW; rw[if_pos (.inr d)]
   rw[e,if_neg (by decide)]; exact vO h c hv hn a d
  ·by_cases b:4096 < v.length
   ·have e:iW k v=61:=by unfold iW; rw[if_neg (by omega),if_pos b]
    rw[e,if_neg (by decide)]; exact yi h c hv hn a d b
   ·have e:iW k v=0:=by unfold iW; rw[if_neg (by omega),if_neg b]
    rw[e,if_pos rfl];obtain⟨F,V,m,Q,p,T,l,hX,rfl,f⟩:=h.open;rcases List.eq_nil_or_concat T with rfl | ⟨o,j,rfl⟩
    ·exact AO hX f c hv hn i a d b
    ·rw[List.concat_eq_append] at hX f;exact xE hX f c hv hn i a d b
end
end Kv
end
end Go.Proofs.YthfepflplbahkaaGreatDoor
