/- Several texts, joined: KvT, PgMp, KvM, KvO, KvP, KvQ, KvD, KvR, KvS, KvU, KvV. -/
import Derived.Test.YthfepflplbahkaaGreatDoorJag
import Derived.Laws.LoneSync
set_option maxRecDepth 100000
set_option maxHeartbeats 8000000
namespace Go.Proofs.YthfepflplbahkaaGreatDoor
section
namespace Kv
open Pg
section
variable {k x v:List Int}{Q:List (List KV)}
abbrev aD:=List KV
def eG(E:aD):Prop:=E.Pairwise fun x y=>Lt x.1 y.1
def look(E:aD)(k:List Int):Option (List Int):=(E.find? (fun x=>decide (x.1=k))).map Prod.snd
def put(E:aD)(k v:List Int):aD:=E.filter (fun x=>decide (Lt x.1 k)) ++ (k,v) :: E.filter (fun x=>decide (Lt k x.1))
def rem(E:aD)(k:List Int):aD:=E.filter (fun x=>decide (¬ x.1=k))
theorem ec{α:Type}{p:α->Bool}{l:List α}(h:∀ x∈l,p x=true):l.filter p=l:=List.filter_eq_self.2 h
theorem iC{α:Type}{p:α->Bool}{l:List α}(h:∀ x∈l,p x=false):l.filter p=[]:=List.filter_eq_nil_iff.2 (fun x hx=>by rw[h x hx]; simp)
structure Cut(k:List Int)(X Y:aD):Prop where
 lo:∀ x∈X,Lt x.1 k
 hi:∀ y∈Y,Lt k y.1
theorem Cut.nx{X Y:aD}(h:Cut k X Y):∀ x∈X,¬ x.1=k:=fun x hx e=>by have:=h.lo x hx; rw[e] at this; exact lt_irrefl _ this
theorem Cut.ny{X Y:aD}(h:Cut k X Y):∀ x∈Y,¬ x.1=k:=fun x hx e=>by have:=h.hi x hx; rw[e] at this; exact lt_irrefl _ this
theorem CR{X:aD}(h:∀ x∈X,¬ x.1=k):look X k=none:=by
 unfold look;rw[List.find?_eq_none.2 (fun x hx=>by simp[h x hx])];rfl
theorem qJ{X Y:aD}(h:∀ x∈X,¬ x.1=k):look (X ++ Y) k=look Y k:=by
 unfold look;rw[List.find?_append,List.find?_eq_none.2 (fun x hx=>by simp[h x hx])];simp
theorem Cut.rj{X Y:aD}(h:Cut k X Y):look (X ++ Y) k=none:=by rw[qJ h.nx,CR h.ny]
theorem Cut.oC{X Y:aD}(h:Cut k X Y):look (X ++ (k,x) :: Y) k=some x:=by
 rw[qJ h.nx];simp[look]
theorem Cut.wg{X Y:aD}(h:Cut k X Y):put (X ++ Y) k v=X ++ (k,v) :: Y:=by
 unfold put;rw[List.filter_append,List.filter_append,ec (l:=X) (fun x hx=>decide_eq_true (h.lo x hx)),iC (l:=Y) (fun x hx=>decide_eq_false (h.hi x hx).not),iC (l:=X) (fun x hx=>decide_eq_false (h.lo x hx).not),ec (l:=Y) (fun x hx=>decide_eq_true (h.hi x hx))];simp
theorem Cut.wQ{X Y:aD}(h:Cut k X Y):put (X ++ (k,x) :: Y) k v=X ++ (k,v) :: Y:=by
 unfold put;rw[List.filter_append,List.filter_append,ec (l:=X) (fun x hx=>decide_eq_true (h.lo x hx)),iC (l:=X) (fun x hx=>decide_eq_false (h.lo x hx).not),List.filter_cons,List.filter_cons,iC (l:=Y) (fun x hx=>decide_eq_false (h.hi x hx).not),ec (l:=Y) (fun x hx=>decide_eq_true (h.hi x hx)),decide_eq_false (lt_irrefl k)];simp
theorem Cut.yS{X Y:aD}(h:Cut k X Y):rem (X ++ Y) k=X ++ Y:=by
 unfold rem;rw[List.filter_append,ec (l:=X) (fun x hx=>decide_eq_true (h.nx x hx)),ec (l:=Y) (fun x hx=>decide_eq_true (h.ny x hx))]
theorem Cut.Cj{X Y:aD}(h:Cut k X Y):rem (X ++ (k,x) :: Y) k=X ++ Y:=by
 unfold rem;rw[List.filter_append,ec (l:=X) (fun x hx=>decide_eq_true (h.nx x hx)),List.filter_cons,ec (l:=Y) (fun x hx=>decide_eq_true (h.ny x hx))];simp
theorem qa{X Y:aD}(h:eG (X ++ (k,x) :: Y)):Cut k X Y:=by
 unfold eG at h;rw[List.pairwise_append,List.pairwise_cons] at h;exact⟨fun a ha=>h.2.2 a ha (k,x) List.mem_cons_self,fun b hb=>h.2.1.1 b hb⟩
theorem eG.cut{E:aD}(h:eG E)(k:List Int):∃ X Y,Cut k X Y/\((E=X ++ Y/\look E k=none)\/∃ x,E=X ++ (k,x) :: Y/\look E k=some x):=by
 induction E with
 | nil=>exact⟨[],[],⟨fun _ h=>by simp at h,fun _ h=>by simp at h⟩,.inl ⟨rfl,rfl⟩⟩
 | cons a E ih =>
  have b:=h;unfold eG at b;rw[List.pairwise_cons] at b;rcases py a.1 k with f | he | d
  ·obtain⟨X,Y,c,r⟩:=ih b.2
   have hc:Cut k (a :: X) Y:=⟨fun x hx=>by
    rcases List.mem_cons.1 hx with rfl | hx
    ·exact f
    ·exact c.lo x hx,c.hi⟩
   refine⟨a :: X,Y,hc,?_⟩;rcases r with⟨e,_⟩ | ⟨x,e,_⟩
   ·subst e; exact .inl ⟨rfl,hc.rj⟩
   ·subst e; exact .inr ⟨x,rfl,hc.oC⟩
  ·have hc:Cut k [] E:=⟨fun _ h=>by simp at h,fun y hy=>by rw[<- he]; exact b.1 y hy⟩
   obtain⟨i,g⟩:=a;simp only at he;subst he;exact⟨[],E,hc,.inr ⟨g,rfl,hc.oC⟩⟩
  ·have hc:Cut k [] (a :: E):=⟨fun _ h=>by simp at h,fun y hy=>by
    rcases List.mem_cons.1 hy with rfl | hy
    ·exact d
    ·exact d.trans (b.1 y hy)⟩
   exact⟨[],a :: E,hc,.inl ⟨rfl,hc.rj⟩⟩
theorem qE{X Y:aD}(h:eG (X ++ Y))(c:Cut k X Y):eG (X ++ (k,v) :: Y):=by
 unfold eG at h ⊢;rw[List.pairwise_append] at h;rw[List.pairwise_append,List.pairwise_cons];refine⟨h.1,⟨fun y hy=>c.hi y hy,h.2.1⟩,fun x hx y hy => ?_⟩;rcases List.mem_cons.1 hy with rfl | hy
 ·exact c.lo x hx
 ·exact h.2.2 x hx y hy
theorem Ay{X Y:aD}(h:eG (X ++ (k,v) :: Y)):eG (X ++ Y):=by
 unfold eG at h ⊢;rw[List.pairwise_append,List.pairwise_cons] at h;rw[List.pairwise_append];exact⟨h.1,h.2.1.2,fun x hx y hy=>h.2.2 x hx y (List.mem_cons_of_mem _ hy)⟩
theorem eG.put{E:aD}(h:eG E)(k v:List Int):eG (put E k v):=by
 obtain⟨X,Y,c,⟨rfl,_⟩ | ⟨x,rfl,_⟩⟩:=h.cut k
 ·rw[c.wg]; exact qE h c
 ·rw[c.wQ]; exact qE (Ay h) c
theorem eG.rem{E:aD}(h:eG E)(k:List Int):eG (rem E k):=List.Pairwise.filter _ h
abbrev Und:=List Int × Option (List Int)
def zn(E:aD)(u:Und):aD:=match u.2 with
 | none=>rem E u.1
 | some v=>put E u.1 v
theorem xQ{E:aD}(h:eG E)(k v:List Int):zn (put E k v) (k,look E k)=E:=by
 obtain⟨X,Y,c,⟨rfl,e⟩ | ⟨x,rfl,e⟩⟩:=h.cut k
 ·rw[e,c.wg]; exact c.Cj
 ·rw[e,c.wQ]; exact c.wQ
theorem zj{E:aD}(h:eG E)(k:List Int):zn (rem E k) (k,look E k)=E:=by
 obtain⟨X,Y,c,⟨rfl,e⟩ | ⟨x,rfl,e⟩⟩:=h.cut k
 ·rw[e,c.yS]; exact c.yS
 ·rw[e,c.Cj]; exact c.wg
def uw(U:List Und)(E:aD):aD:=U.foldr (fun u E=>zn E u) E
theorem sM(U:List Und)(u:Und)(E:aD):uw (U ++ [u]) E=uw U (zn E u):=by simp[uw]
def j4:List (List Und)->List aD->aD->Prop
 | [],[],_=>True
 | U :: J,e :: W,E=>uw U E=e/\j4 J W e
 | _,_,_=>False
theorem iw(h:j7 Q)(k v:List Int):(wI Q k v).flatten=put Q.flatten k v:=by
 cases hh:gz Q k
 ·obtain⟨X,Y,e1,e2,a,b⟩:=h.im v hh;rw[e1,e2,Cut.wg ⟨a,b⟩]
 ·obtain⟨X,x,Y,e1,e2⟩:=h.vf v hh;have c:=qa (by have:=h.flat; rw[e1] at this; exact this);rw[e1,e2,c.wQ]
theorem jK(h:j7 Q)(k:List Int):gz Q k=(look Q.flatten k).isSome:=by
 cases hh:gz Q k
 ·obtain⟨X,Y,e1,_,a,b⟩:=h.im [] hh;rw[e1,Cut.rj ⟨a,b⟩]; rfl
 ·obtain⟨X,x,Y,e1,_⟩:=h.vf [] hh;have c:=qa (by have:=h.flat; rw[e1] at this; exact this);rw[e1,c.oC]; rfl
theorem ic(h:j7 Q)(k:List Int):(tO Q k).flatten=rem Q.flatten k:=by
 cases hh:gz Q k
 ·rw[wZ hh];obtain⟨X,Y,e1,_,a,b⟩:=h.im [] hh;rw[e1,Cut.yS ⟨a,b⟩]
 ·obtain⟨X,x,Y,e1,e2⟩:=h.Dy hh;have c:=qa (by have:=h.flat; rw[e1] at this; exact this);rw[e1,e2,c.Cj]
theorem BP(a:gz Q k=true):(k,wD Q k)∈Q.flatten:=by
 unfold gz thr at a;simp only[Bool.and_eq_true,Bool.not_eq_true',decide_eq_true_eq] at a;obtain⟨_,b⟩:=a;unfold wD;rw[List.getElem?_map] at b;obtain⟨x,hx,c⟩:=Option.map_eq_some_iff.1 b;rw[hx];simp only[Option.map_some,Option.getD_some];have hm:=List.mem_of_getElem? hx
 have d:x=(k,x.2):=by rw[<- c]
 rw[<- d];rw[List.getD_eq_getElem?_getD] at hm
 cases hq:Q[apl Q k]? with
 | none=>rw[hq] at hm; simp at hm
 | some p=>rw[hq] at hm; exact List.mem_flatten.2 ⟨p,List.mem_of_getElem? hq,hm⟩
theorem AE(h:j7 Q)(k:List Int):(if gz Q k then wD Q k else [])=(look Q.flatten k).getD []:=by
 cases hh:gz Q k
 ·have:=jK h k;rw[hh] at this
  cases hl:look Q.flatten k with
  | none=>rfl
  | some x=>rw[hl] at this; cases this
 ·have hm:=BP hh;obtain⟨X,Y,e⟩:=List.append_of_mem hm;have c:=qa (by have:=h.flat; rw[e] at this; exact this);rw[e,c.oC]; rfl
theorem jN{E:aD}(h:look E k=some x):(k,x)∈E:=by
 unfold look at h;obtain⟨a,b,rfl⟩:=Option.map_eq_some_iff.1 h;have d:=List.mem_of_find?_eq_some b;have c:=List.find?_some b;simp only[decide_eq_true_eq] at c;rw[<- c]; exact d
theorem uX{E:aD}(h:eG E)(k v:List Int):(put E k v).length<=E.length + 1:=by
 obtain⟨X,Y,c,⟨rfl,_⟩ | ⟨x,rfl,_⟩⟩:=h.cut k
 ·rw[c.wg]; simp; omega
 ·rw[c.wQ]; simp
theorem ux{E:aD}(k:List Int):(rem E k).length<=E.length:=List.length_filter_le _ _
end
end Kv
end
section
namespace Pg
open Go.RowKit Go.Lib
section
variable {L:List Pg}{N g b:Nat}{w w':World}{F D:Nat->Prop}{Q:List (List KV)}{P:List (List En)}{p:En->Prop}{kv:Value}{k:List Int}
structure Mp(w:World)(F D:Nat->Prop)(g:Nat)(Q:List (List KV))(N:Nat):Prop where
 ex:∃ L,abs (ens L)=Q/\bJ w F D g L/\Ord (ens L)/\Shq (ens L)/\(ens L).flatten.length<=N/\∀ es∈ens L,∀ e∈es,e.kl.length<=1000000000/\e.vl.length<=1000000000
theorem uS:∀ {P:List (List En)},(∀ es∈P,1<=es.length)->P.length<=P.flatten.length
 | [],_=>Nat.le_refl _
 | a :: P,h=>by
  have h1:=h a List.mem_cons_self;have b:=uS (P:=P) fun es he=>h es (List.mem_cons_of_mem _ he)
  simp only[List.flatten_cons,List.length_append,List.length_cons];omega
theorem Shq.few(h:Shq (ens L))(hN:(ens L).flatten.length<=N)(hb:N<=100000000):L.length<=100000000:=by
 have h1:=uS fun es he=>(h.one es he).1
 have h2:(ens L).length=L.length:=by simp[ens]
 omega
theorem Mp.lt(M:Mp w F D g Q N)(hb:F b):b < w.heap.size:=by
 obtain⟨L,_,A,_⟩:=M.ex;exact A.lt hb
theorem Mp.noU(M:Mp w F D g Q N)(hb:F b)(cs:List Value):¬ Blk w b cs 5:=by
 obtain⟨L,_,A,_⟩:=M.ex;exact A.noU hb cs
theorem Mp.keep(M:Mp w F D g Q N)(hb:Below w.heap.size w w'):Mp w' F D g Q N:=by
 obtain⟨L,e,A,r⟩:=M.ex;exact⟨L,e,A.keep hb,r⟩
theorem Mp.same(M:Mp w F D g Q N)(a:∀ b,F b->w'.heap[b]? = w.heap[b]?)(c:∀ b,b < w.heap.size->D b->(∃ cs,Blk w b cs 5)->w'.heap[b]? = w.heap[b]?):Mp w' F D g Q N:=by
 obtain⟨L,e,A,r⟩:=M.ex;exact⟨L,e,A.same a c,r⟩
theorem Mp.chg{F':Nat->Prop}(M:Mp w F D g Q N)(hc:Chg F' w w')(h1:∀ b,F' b->¬ F b)(h2:∀ b,F' b->∀ cs,¬ Blk w b cs 5):Mp w' F D g Q N:=by
 obtain⟨L,e,A,r⟩:=M.ex;exact⟨L,e,A.chg hc h1 h2,r⟩
theorem Mp.mono{D':Nat->Prop}(M:Mp w F D g Q N)(hD:∀ b,b < w.heap.size->D b->D' b):Mp w F D' g Q N:=by
 obtain⟨L,e,A,r⟩:=M.ex;exact⟨L,e,A.mono hD,r⟩
theorem Mp.more{N':Nat}(M:Mp w F D g Q N)(h:N<=N'):Mp w F D g Q N':=by
 obtain⟨L,e,A,O,S,n,r⟩:=M.ex;exact⟨L,e,A,O,S,by omega,r⟩
theorem Mp.ord(M:Mp w F D g Q N):j7 Q:=by
 obtain⟨L,e,A,O,_⟩:=M.ex;exact⟨_,e,O⟩
theorem Mp.len(M:Mp w F D g Q N):Q.flatten.length<=N:=by
 obtain⟨L,rfl,A,O,S,n,r⟩:=M.ex;rw[dq,List.length_map];exact n
theorem Mp.small(M:Mp w F D g Q N):∀ x∈Q.flatten,x.1.length<=1000000000/\x.2.length<=1000000000:=by
 obtain⟨L,rfl,A,O,S,n,r⟩:=M.ex;intro x hx;rw[dq] at hx;obtain⟨e,he,rfl⟩:=List.mem_map.1 hx;obtain⟨es,a,b⟩:=List.mem_flatten.1 he;exact r es a e b
theorem mm:(∀ es∈P,∀ e∈es,p e)<->∀ e∈P.flatten,p e :=
 ⟨fun h e he=>by obtain⟨es,h1,h2⟩:=List.mem_flatten.1 he; exact h es h1 e h2,fun h es he e hee=>h e (List.mem_flatten.2 ⟨es,he,hee⟩)⟩
theorem mnew:Calls Tryz.prog 43 #[] w fun e w'=>e=.returned (.pointer (some ⟨w.heap.size,0,none⟩))/\Mp w' (· = w.heap.size) (fun _=>False) w.heap.size [] 0/\Below w.heap.size w w' :=
 Bv.mono fun e w' ⟨g,he,a,A,B⟩=>by
  subst a;exact⟨he,⟨[],rfl,A,⟨fun _ h=>by simp[ens] at h,List.Pairwise.nil⟩,Shq.nil,Nat.le_refl _,fun _ h=>by simp[ens] at h⟩,B⟩
theorem mset{vv:Value}{v:List Int}(M:Mp w F D g Q N)(j:By w kv k)(l:By w vv v)(f:k.length<=1000000000)(i:v.length<=1000000000)(m:N<=100000000) :
  Calls Tryz.prog 97 #[.pointer (some ⟨g,0,none⟩),kv,vv] w fun e w'=>e=.returned (.bool (!gz Q k))/\∃ F',Mp w' F' (fun b=>D b\/w.heap.size<=b) g (wI Q k v) (N + 1)/\(∀ b,F' b->F b\/w.heap.size<=b)/\Chg F w w':=by
 obtain⟨L,rfl,A,O,S,n,r⟩:=M.ex;refine(CT A O (fun es he=>(S.one es he).2) (S.few n m) j l f i).mono fun e w' ⟨he,F',c,nk,a,e1,d,hF,hc⟩ => ?_
 refine⟨by rw[gC]; exact he,F',⟨c,by rw[e1,p6],d,by rw[e1]; exact O.set _,by rw[e1]; exact S.set O _,?_,?_⟩,hF,hc⟩
 ·rw[e1,Bc O];split<;>omega
 ·rw[e1];rw[mm] at r ⊢;intro x hx
  cases hh:has (ens L) k
  ·obtain⟨X,Y,e2,e3,_⟩:=gm O (e:=⟨nk,k,a,v⟩) hh;rw[e3] at hx;rw[e2] at r;rcases List.mem_append.1 hx with h | h
   ·exact r x (List.mem_append_left _ h)
   ·rcases List.mem_cons.1 h with h | h
    ·subst h; exact⟨f,i⟩
    ·exact r x (List.mem_append_right _ h)
  ·obtain⟨X,y,Y,e2,hy,e3⟩:=gu O (e:=⟨nk,k,a,v⟩) hh;rw[e3] at hx;rw[e2] at r;rcases List.mem_append.1 hx with h | h
   ·exact r x (List.mem_append_left _ h)
   ·rcases List.mem_cons.1 h with h | h
    ·subst h; exact⟨by simp only; rw[hy]; exact f,i⟩
    ·exact r x (List.mem_append_right _ (List.mem_cons_of_mem _ h))
theorem mdel(M:Mp w F D g Q N)(d:By w kv k)(f:N<=100000000) :
  Calls Tryz.prog 122 #[.pointer (some ⟨g,0,none⟩),kv] w fun e w'=>e=.returned (.bool (gz Q k))/\∃ F',Mp w' F' D g (tO Q k) N/\(∀ b,F' b->F b\/w.heap.size<=b)/\Chg F w w':=by
 obtain⟨L,rfl,A,O,S,n,r⟩:=M.ex;refine(r9 A O (fun es he=>(S.one es he).2) (S.few n f) d).mono fun e w' ⟨he,F',a,e1,c,hF,hc⟩ => ?_
 refine⟨by rw[gC]; exact he,F',⟨a,by rw[e1,uD],c,by rw[e1]; exact O.del _,by rw[e1]; exact S.del O _,?_,?_⟩,hF,hc⟩
 ·rw[e1]
  cases hh:has (ens L) k
  ·rw[q8 hh]; exact n
  ·obtain⟨X,x,Y,e2,_,e3⟩:=l6 O hh;rw[e2] at n;rw[e3];simp only[List.length_append,List.length_cons] at n ⊢;omega
 ·rw[e1];rw[mm] at r ⊢;intro x hx
  cases hh:has (ens L) k
  ·rw[q8 hh] at hx; exact r x hx
  ·obtain⟨X,y,Y,e2,_,e3⟩:=l6 O hh;rw[e3] at hx;rw[e2] at r;rcases List.mem_append.1 hx with h | h
   ·exact r x (List.mem_append_left _ h)
   ·exact r x (List.mem_append_right _ (List.mem_cons_of_mem _ h))
theorem mget(M:Mp w F D g Q N)(b:By w kv k)(c:N<=100000000) :
  Calls Tryz.prog 170 #[.pointer (some ⟨g,0,none⟩),kv] w fun e w'=>∃ v,e=.returned (.tuple #[v,.bool (gz Q k)])/\OB w' (w.heap.size <= ·) v (if gz Q k then wD Q k else [])/\Below w.heap.size w w':=by
 obtain⟨L,rfl,A,O,S,n,r⟩:=M.ex;rw[gC,BH];exact CE A O (fun es he=>by have:=(S.one es he).2; omega) (S.few n c) b fun p a e he=>(r p.es (List.mem_map.2 ⟨p,a,rfl⟩) e he).2
end
end Pg
end
section
namespace Kv
open Go.RowKit Go.Lib Pg
section
variable {V D V' D' K:Nat->Prop}{w w':World}{v c jv:Value}{l:List Int}{g b n N:Nat}{cs cs':List Value}{oj:Option Nat}{E:aD}{W:List aD}
theorem KF:Kd Tryz.prog 270 1 1 8 .nilFunc:=⟨by kernel_rfl,by kernel_rfl,rfl,by simp[Value.cells,Value.oneCell'],by decide⟩
structure np(w : World)(V D : Nat → Prop)(g : Nat)(u : Und)(c : Value) : Prop where
  short : u.1.length ≤ 1000000000 ∧ ∀ x, u.2 = some x → x.length ≤ 1000000000
  ex : ∃ s1 s2 kv, V s1 ∧ V s2 ∧ Blk w s1 [.pointer (some ⟨g, 0, none⟩)] 37 ∧ Blk w s2 [kv] 96 ∧ OB w D kv u.1 ∧
    ((u.2 = none ∧ c = .func (.func 191) #[] #[.pointer (some ⟨s1, 0, none⟩), .pointer (some ⟨s2, 0, none⟩)]) ∨
     ∃ s3 vv x, V s3 ∧ Blk w s3 [vv] 96 ∧ OB w D vv x ∧ u.2 = some x ∧ c = .func (.func 192) #[] #[.pointer (some ⟨s1, 0, none⟩), .pointer (some ⟨s2, 0, none⟩), .pointer (some ⟨s3, 0, none⟩)])
structure kX(V D:Nat->Prop)(w w':World):Prop where
 var:∀ b cs t,V b->Blk w b cs t->(t=37\/t=96)->w'.heap[b]? = w.heap[b]?
 byt:∀ b,b < w.heap.size->D b->(∃ cs,Blk w b cs 5)->w'.heap[b]? = w.heap[b]?
theorem kX.ob(h:kX V D w w')(O:OB w D v l):OB w' D v l :=
 ⟨O.oct,O.ex.imp id (by
  rintro⟨b,c,e,hd,hR⟩;exact⟨b,c,e,hd,hR.same (h.byt b hR.lt hd hR.kind)⟩)⟩
theorem np.stay{u:Und}(h:np w V D g u c)(hs:kX V D w w'):np w' V D g u c:=by
 obtain⟨s1,s2,kv,v1,v2,b1,b2,ok,r⟩:=h.ex;refine⟨h.short,s1,s2,kv,v1,v2,b1.same (hs.var _ _ _ v1 b1 (.inl rfl)),b2.same (hs.var _ _ _ v2 b2 (.inr rfl)),hs.ob ok,r.imp id ?_⟩;rintro⟨s3,vv,x,v3,b3,a,e⟩;exact⟨s3,vv,x,v3,b3.same (hs.var _ _ _ v3 b3 (.inr rfl)),hs.ob a,e⟩
theorem np.mono{u:Und}(h:np w V D g u c)(a:∀ b,V b->V' b)(d:∀ b,b < w.heap.size->D b->D' b):np w V' D' g u c:=by
 obtain⟨s1,s2,kv,v1,v2,b1,b2,ok,r⟩:=h.ex;refine⟨h.short,s1,s2,kv,a _ v1,a _ v2,b1,b2,ok.mono d,r.imp id ?_⟩;rintro⟨s3,vv,x,v3,b3,f,e⟩;exact⟨s3,vv,x,a _ v3,b3,f.mono d,e⟩
theorem np.one{u:Und}(h:np w V D g u c):c.oneCell'=true:=by
 obtain⟨s1,s2,kv,v1,v2,b1,b2,ok,⟨_,rfl⟩ | ⟨s3,vv,x,v3,b3,ov,_,rfl⟩⟩:=h.ex<;>rfl
def iF(w:World)(V D:Nat->Prop)(g:Nat)(U:List Und)(cs:List Value):Prop:=cs.length=U.length/\∀ (i:Nat) u c,U[i]? = some u->cs[i]? = some c->np w V D g u c
theorem iF.stay{U:List Und}(h:iF w V D g U cs)(hs:kX V D w w'):iF w' V D g U cs:=⟨h.1,fun i u c hu hc=>(h.2 i u c hu hc).stay hs⟩
theorem iF.mono{U:List Und}(h:iF w V D g U cs)(hV:∀ b,V b->V' b)(hD:∀ b,b < w.heap.size->D b->D' b):iF w V' D' g U cs:=⟨h.1,fun i u c hu hc=>(h.2 i u c hu hc).mono hV hD⟩
theorem iF.app{U a:List Und}(h:iF w V D g U cs)(b:iF w V D g a cs'):iF w V D g (U ++ a) (cs ++ cs'):=by
 refine⟨by rw[List.length_append,List.length_append,h.1,b.1],fun i u c hu hc => ?_⟩;by_cases hi:i < U.length
 ·rw[List.getElem?_append_left hi] at hu;rw[List.getElem?_append_left (by rw[h.1]; exact hi)] at hc;exact h.2 i u c hu hc
 ·rw[List.getElem?_append_right (by omega)] at hu;rw[List.getElem?_append_right (by rw[h.1]; omega),h.1] at hc;exact b.2 _ u c hu hc
theorem iF.one{U:List Und}(h:iF w V D g U cs):∀ c∈cs,c.oneCell'=true:=fun c hc=>by
 obtain⟨i,hi⟩:=List.getElem?_of_mem hc;have a:=(List.getElem?_eq_some_iff.1 hi).1;exact(h.2 i (U[i]'(by rw[<- h.1]; exact a)) c (List.getElem?_eq_getElem _) hi).one
structure Jr where
 U:List Und
 v:Value
 o:Option Nat
def JrA(w:World)(V D:Nat->Prop)(g:Nat)(j:Jr):Prop:=∃ cs,iF w V D g j.U cs/\((j.o=none/\j.v=.slice none 0 0/\j.U=[])\/∃ b c,j.o=some b/\j.v=.slice (some ⟨b,0,none⟩) j.U.length c/\Rw w 1 1 b j.U.length c cs)
theorem JrA.stay{j:Jr}(h:JrA w V D g j)(hs:kX V D w w')(d:∀ b,j.o=some b->w'.heap[b]? = w.heap[b]?):JrA w' V D g j:=by
 obtain⟨cs,hc,r⟩:=h;refine⟨cs,hc.stay hs,r.imp id ?_⟩;rintro⟨b,c,e1,e2,a⟩;exact⟨b,c,e1,e2,a.same (d b e1)⟩
theorem JrA.mono{j:Jr}(h:JrA w V D g j)(hV:∀ b,V b->V' b)(hD:∀ b,b < w.heap.size->D b->D' b):JrA w V' D' g j:=by
 obtain⟨cs,hc,r⟩:=h;exact⟨cs,hc.mono hV hD,r⟩
theorem JrA.kind{j:Jr}(h:JrA w V D g j)(hb:j.o=some b):∃ cs,Blk w b cs 1:=by
 obtain⟨cs,hc,⟨e,_⟩ | ⟨b',c,e,_,hR⟩⟩:=h
 ·rw[hb] at e; cases e
 ·rw[hb] at e; cases e; exact hR.kind
structure JnA(w:World)(V D:Nat->Prop)(g:Nat)(jv:Value)(T:List Jr)(oj:Option Nat):Prop where
 row:(oj=none/\jv=.slice none 0 0/\T=[])\/∃ b c,oj=some b/\jv=.slice (some ⟨b,0,none⟩) T.length c/\Rw w 273 1 b T.length c (T.map Jr.v)
 each:∀ j∈T,JrA w V D g j
 apart:(T.filterMap Jr.o).Nodup
theorem JnA.stay{T:List Jr}(h:JnA w V D g jv T oj)(hs:kX V D w w')(e:∀ b,oj=some b->w'.heap[b]? = w.heap[b]?)(hb:∀ j∈T,∀ b,j.o=some b->w'.heap[b]? = w.heap[b]?):JnA w' V D g jv T oj :=
 ⟨h.row.imp id (by rintro⟨b,c,e1,e2,d⟩; exact⟨b,c,e1,e2,d.same (e b e1)⟩),fun j a=>(h.each j a).stay hs (hb j a),h.apart⟩
theorem JnA.mono{T:List Jr}(h:JnA w V D g jv T oj)(hV:∀ b,V b->V' b)(hD:∀ b,b < w.heap.size->D b->D' b):JnA w V' D' g jv T oj :=
 ⟨h.row,fun j hj=>(h.each j hj).mono hV hD,h.apart⟩
theorem JnA.kind{T:List Jr}(h:JnA w V D g jv T oj)(hb:oj=some b):∃ cs,Blk w b cs 273:=by
 rcases h.row with⟨e,_⟩ | ⟨b',c,e,_,hR⟩
 ·rw[hb] at e; cases e
 ·rw[hb] at e; cases e; exact hR.kind
def tot(T:List Jr):Nat:=(T.map fun j=>j.U.length).sum
structure Own(w:World)(K F V:Nat->Prop)(g:Nat)(T:List Jr)(oj:Option Nat):Prop where
 top:K g
 map:∀ b,F b->K b
 var:∀ b,V b->K b
 jrn:∀ b,oj=some b->K b
 bck:∀ j∈T,∀ b,j.o=some b->K b
 kind:∀ b,K b->∃ cs t,Blk w b cs t/\t≠5
 pZ:¬ F g
 r6:∀ b,V b->¬ F b
 qB:∀ b,oj=some b->¬ F b
 nM:∀ j∈T,∀ b,j.o=some b->¬ F b
 vk:∀ b,V b->∃ cs t,Blk w b cs t/\(t=37\/t=96)
structure SA(w:World)(K D:Nat->Prop)(g:Nat)(E:aD)(W:List aD)(n N:Nat):Prop where
 ex:∃ F V m Q jv T oj,Blk w g [.pointer (some ⟨m,0,none⟩),jv,.int .i64 n] 94/\Mp w F D m Q N/\Q.flatten=E/\JnA w V D g jv T oj/\j4 (T.reverse.map Jr.U) W E/\tot T + E.length<=N/\T.length<=16/\Own w K F V g T oj
theorem SA.lt(h:SA w K D g E W n N)(hb:K b):b < w.heap.size:=by
 obtain⟨F,V,m,Q,jv,T,oj,_,_,_,_,_,_,_,O⟩:=h.ex;obtain⟨cs,t,h,_⟩:=O.kind b hb;exact h.lt
theorem SA.top(h:SA w K D g E W n N):K g:=by
 obtain⟨F,V,m,Q,jv,T,oj,_,_,_,_,_,_,_,O⟩:=h.ex;exact O.top
theorem Own.same{F:Nat->Prop}{T:List Jr}(O:Own w K F V g T oj)(d:∀ b,K b->w'.heap[b]? = w.heap[b]?):Own w' K F V g T oj :=
 ⟨O.top,O.map,O.var,O.jrn,O.bck,fun b hb=>by
  obtain⟨cs,t,a,c⟩:=O.kind b hb;exact⟨cs,t,a.same (d b hb),c⟩,O.pZ,O.r6,O.qB,O.nM,fun b e=>by
  obtain⟨cs,t,a,c⟩:=O.vk b e;exact⟨cs,t,a.same (d b (O.var b e)),c⟩⟩
theorem SA.same(h:SA w K D g E W n N)(a:∀ b,K b->w'.heap[b]? = w.heap[b]?)(d:∀ b,b < w.heap.size->D b->(∃ cs,Blk w b cs 5)->w'.heap[b]? = w.heap[b]?):SA w' K D g E W n N:=by
 obtain⟨F,V,m,Q,k,T,l,hb,hm,he,p,f,i,o,O⟩:=h.ex
 have hs:kX V D w w':=⟨fun b _ _ q _ _=>a b (O.var b q),d⟩
 exact⟨F,V,m,Q,k,T,l,hb.same (a g O.top),hm.same (fun b hF=>a b (O.map b hF)) d,he,p.stay hs (fun b e=>a b (O.jrn b e)) (fun j c b e=>a b (O.bck j c b e)),f,i,o,O.same a⟩
theorem SA.keep(h:SA w K D g E W n N)(hb:Below w.heap.size w w'):SA w' K D g E W n N:=h.same (fun b hK=>hb.block b (h.lt hK)) (fun b hl _ _=>hb.block b hl)
theorem SA.chg{a:Nat->Prop}(h:SA w K D g E W n N)(hc:Chg a w w')(e:∀ b,a b->¬ K b)(j:∀ b,a b->∀ cs,¬ Blk w b cs 5):SA w' K D g E W n N :=
 h.same (fun b c=>hc.same b (h.lt c) fun f=>e b f c) (fun b i _ d=>hc.same b i fun f=>by obtain⟨cs,k⟩:=d; exact j b f cs k)
theorem SA.mono(h:SA w K D g E W n N)(a:∀ b,b < w.heap.size->D b->D' b):SA w K D' g E W n N:=by
 obtain⟨F,V,m,Q,j,T,d,hb,hm,he,f,c,i,e,O⟩:=h.ex;exact⟨F,V,m,Q,j,T,d,hb,hm.mono a,he,f.mono (fun _ h=>h) a,c,i,e,O⟩
theorem SA.more{N':Nat}(h:SA w K D g E W n N)(a:N<=N'):SA w K D g E W n N':=by
 obtain⟨F,V,m,Q,i,T,c,hb,hm,he,e,b,f,d,O⟩:=h.ex;exact⟨F,V,m,Q,i,T,c,hb,hm.more a,he,e,b,Nat.le_trans f a,d,O⟩
theorem SA.size(h:SA w K D g E W n N):E.length<=N:=by
 obtain⟨F,V,m,Q,jv,T,oj,hb,hm,rfl,_⟩:=h.ex;exact hm.len
theorem SA.small(h:SA w K D g E W n N):∀ x∈E,x.1.length<=1000000000/\x.2.length<=1000000000:=by
 obtain⟨F,V,m,Q,jv,T,oj,hb,hm,rfl,_⟩:=h.ex;exact hm.small
end
end Kv
end
section
namespace Kv
open Go.RowKit Go.Lib Pg
section
variable {w w':World}{K D F V:Nat->Prop}{g n N m:Nat}{E:aD}{W:List aD}{Q:List (List KV)}{jv kv:Value}{T:List Jr}{oj:Option Nat}{x:Int}{cs:List Value}{ao:Option Addr}{k:List Int}
attribute [local go_sem] Oper.semAt_some
structure SX(w:World)(K D F V:Nat->Prop)(g m:Nat)(Q:List (List KV))(jv:Value)(T:List Jr)(oj:Option Nat)(n N:Nat):Prop where
 blk:Blk w g [.pointer (some ⟨m,0,none⟩),jv,.int .i64 n] 94
 map:Mp w F D m Q N
 jn:JnA w V D g jv T oj
 tot:tot T + Q.flatten.length<=N
 len:T.length<=16
 own:Own w K F V g T oj
theorem SA.open(h:SA w K D g E W n N):∃ F V m Q jv T oj,SX w K D F V g m Q jv T oj n N/\Q.flatten=E/\j4 (T.reverse.map Jr.U) W E:=by
 obtain⟨F,V,m,Q,jv,T,oj,hb,hm,he,c,a,d,b,O⟩:=h.ex;exact⟨F,V,m,Q,jv,T,oj,⟨hb,hm,c,by rw[he]; exact d,b,O⟩,he,a⟩
theorem SX.shut(h:SX w K D F V g m Q jv T oj n N)(he:Q.flatten=E)(a:j4 (T.reverse.map Jr.U) W E):SA w K D g E W n N :=
 ⟨F,V,m,Q,jv,T,oj,h.blk,h.map,he,h.jn,a,by have:=h.tot; rw[he] at this; exact this,h.len,h.own⟩
theorem ll{x:Nat}{t:TypeId}(hx:Blk w x cs t)(g:t≠37)(j:t≠96)(d:t≠5)(hc:Chg (· = x) w w'):kX V D w w' :=
 ⟨fun b a l _ hb i=>hc.same b hb.lt (fun e=>by
  have c:b=x:=e;subst c;have:=(hx.eq hb).2;subst this;exact i.elim g j),fun b h _ f=>hc.same b h (fun e=>by
  have c:b=x:=e;subst c;obtain⟨a,k⟩:=f;exact d (hx.eq k).2)⟩
theorem Own.chg1{x:Nat}(O:Own w K F V g T oj)(hs:kX V D w w')(hc:Chg (· = x) w w'){t:TypeId}(hx:Blk w' x cs t)(c:t≠5):Own w' K F V g T oj :=
 ⟨O.top,O.map,O.var,O.jrn,O.bck,fun b hb=>by
  by_cases e:b=x
  ·subst e; exact⟨cs,t,hx,c⟩
  ·obtain⟨d,i,a,f⟩:=O.kind b hb;exact⟨d,i,a.chg hc e,f⟩,O.pZ,O.r6,O.qB,O.nM,fun b h=>by
  obtain⟨cs,t,a,c⟩:=O.vk b h;exact⟨cs,t,a.same (hs.var b cs t h a c),c⟩⟩
theorem SX.top{f:Nat}(h:SX w K D F V g m Q jv T oj n N)(hc:Chg (· = g) w w')(hb:Blk w' g [.pointer (some ⟨m,0,none⟩),jv,.int .i64 f] 94):SX w' K D F V g m Q jv T oj f N :=
 ⟨hb,h.map.chg hc (fun b e hF=>h.own.pZ (by have a:b=g:=e; exact a▸hF)) (fun b e cs k=>by
   have a:b=g:=e;subst a;exact absurd (h.blk.eq k).2 (by decide)),h.jn.stay (ll h.blk (by decide) (by decide) (by decide) hc)
   (fun b e=>by
    obtain⟨cs,k⟩:=h.jn.kind e;exact hc.same b k.lt (fun a=>by
     have c:b=g:=a;subst c;exact absurd (h.blk.eq k).2 (by decide)))
   (fun j d b e=>by
    obtain⟨cs,k⟩:=(h.jn.each j d).kind e;exact hc.same b k.lt (fun a=>by
     have c:b=g:=a;subst c;exact absurd (h.blk.eq k).2 (by decide))),h.tot,h.len,h.own.chg1 (ll (D:=D) h.blk (by decide) (by decide) (by decide) hc) hc hb (by decide)⟩
theorem SX.keep(h:SX w K D F V g m Q jv T oj n N)(hb:Below w.heap.size w w'):SX w' K D F V g m Q jv T oj n N:=by
 have a:∀ b,K b->w'.heap[b]? = w.heap[b]? := fun b f=>by
  obtain⟨cs,t,k,_⟩:=h.own.kind b f;exact hb.block b k.lt
 exact⟨h.blk.keep hb,h.map.keep hb,h.jn.stay ⟨fun b _ _ _ k _=>hb.block b k.lt,fun b c _ _=>hb.block b c⟩ (fun b e=>a b (h.own.jrn b e)) (fun j d b e=>a b (h.own.bck j d b e)),h.tot,h.len,h.own.same a⟩
theorem sL{a:Addr}(hc:w.cell? a=some (.int .i64 x))(b:w.frozen? a=false)(c:0<=x)(d:x<=4000000000000000000) :
  (callFunc 190 #[.pointer (some a),.int .i64 1]).run Tryz.prog w=.ok (.value (.int .i64 (x + 1))) (w.setCell a (.int .i64 (x + 1))) :=
 run_call_add Tryz.func190 (by kernel_rfl) (by kernel_rfl) (by kernel_rfl) .i64 (by kernel_rfl) hc b (by
  have e:IntKind.i64.wrap (x + 1)=x + 1:=by rw[IntKind.wrap_i64]; omega
  simp[Op.intArith,e])
theorem CX(hc:w.cell? ⟨g,2,none⟩=some (.int .i64 x))(c:w.frozen? ⟨g,2,none⟩=false)(b:0<=x)(d:x<=4000000000000000000) :
  Calls Tryz.prog 142 #[.pointer (some ⟨g,2,none⟩),.int .i64 1] w fun e w'=>e=.returned (.int .i64 (x + 1))/\w'=w.setCell ⟨g,2,none⟩ (.int .i64 (x + 1)):=by
 have a:=sL hc c b d;go_enter Tryz.func142,Tryz.ntmps142;go_wp2_with (simp only[a]);go_ret;exact⟨rfl,rfl⟩
theorem j6(hc:w.cell? ⟨g,2,none⟩=some (.int .i64 x))(a:w.frozen? ⟨g,2,none⟩=false)(b:0<=x)(c:x<=4000000000000000000) :
  Calls Tryz.prog 95 #[.pointer (some ⟨g,0,none⟩)] w fun e w'=>e=.returned (.tuple #[])/\w'=w.setCell ⟨g,2,none⟩ (.int .i64 (x + 1)):=by
 have u:=CX hc a b c;clear hc a;go_enter Tryz.func95,Tryz.ntmps95;go_wp2_with (go_at_call 142; refine u.mono ?_; rintro e d ⟨rfl,rfl⟩);go_end0;exact⟨rfl,rfl⟩
theorem fQ(h:SX w K D F V g m Q jv T oj n N)(hn:n<=4000000000000000000) :
  Calls Tryz.prog 95 #[.pointer (some ⟨g,0,none⟩)] w fun e w'=>e=.returned (.tuple #[])/\SX w' K D F V g m Q jv T oj (n + 1) N/\Chg (· = g) w w':=by
 refine(j6 (h.blk.cell (i:=2) rfl) (h.blk.free 2) (by omega) (by omega)).mono ?_
 rintro e w' ⟨rfl,rfl⟩
 have hc:Chg (· = g) w (w.setCell ⟨g,2,none⟩ (.int .i64 ((n:Int) + 1))):=(Chg.refl (· = g) w).cell (.inl rfl) _;refine⟨rfl,h.top hc ?_,hc⟩;have:=h.blk.setCell (i:=2) (.int .i64 ((n:Int) + 1));exact this
theorem oh{c:Nat}{a b:Value}(h:Blk w g [a,.slice ao n c,b] 94) :
  Calls Tryz.prog 143 #[.pointer (some ⟨g,0,none⟩)] w fun e w'=>e=.returned (.int .i64 n)/\w'=w:=by
 have c1:=h.cell (i:=1) rfl;clear h;go_enter Tryz.func143,Tryz.ntmps143;go_wp2;go_ret;exact⟨rfl,rfl⟩
theorem JnA.shape(h:JnA w V D g jv T oj):∃ ao c,jv=.slice ao T.length c:=by
 rcases h.row with⟨_,e,rfl⟩ | ⟨b,c,_,e,_⟩
 ·exact⟨none,0,e⟩
 ·exact⟨_,c,e⟩
theorem zD(h:SX w K D F V g m Q jv T oj n N) :
  Calls Tryz.prog 143 #[.pointer (some ⟨g,0,none⟩)] w fun e w'=>e=.returned (.int .i64 T.length)/\w'=w:=by
 obtain⟨a,c,e⟩:=h.jn.shape;have hb:=h.blk;rw[e] at hb;exact oh hb
theorem snew:Calls Tryz.prog 16 #[] w fun e w'=>∃ g K,e=.returned (.pointer (some ⟨g,0,none⟩))/\SA w' K (fun _=>False) g [] [] 0 0/\(∀ b,K b->w.heap.size<=b)/\Below w.heap.size w w':=by
 have u:=mnew (w:=w);go_enter Tryz.func16,Tryz.ntmps16;go_wp2_with (go_at_call 43; refine u.mono ?_; rintro e a ⟨rfl,M,B⟩);go_ret;have c:=M.lt (b:=w.heap.size) rfl;have al:=ae a (.cells #[.pointer (some ⟨w.heap.size,0,none⟩),.slice none 0 0,.int .i64 0] 94);have bl:=aC a [.pointer (some ⟨w.heap.size,0,none⟩),.slice none 0 0,.int .i64 0] 94;have M2:=M.keep al;refine⟨a.heap.size,fun b=>b=w.heap.size\/b=a.heap.size,rfl,⟨_,fun _=>False,_,_,_,[],none,bl,M2,rfl,⟨.inl ⟨rfl,rfl,rfl⟩,fun _ h=>by simp at h,List.nodup_nil⟩,trivial,by decide,by decide,?_⟩,fun b hb=>by have:=B.size; omega,aj B al⟩;refine⟨.inr rfl,fun b hb=>.inl hb,fun _ h=>h.elim,(fun _ h=>by cases h),(fun _ h=>by simp at h),fun b hb => ?_,(fun h=>by have d:a.heap.size=w.heap.size:=h; omega),fun _ h=>h.elim,(fun _ h=>by cases h),(fun _ h=>by simp at h),fun _ h=>h.elim⟩;rcases hb with rfl | rfl
 ·obtain⟨L,_,A,_⟩:=M2.ex;exact A.kind _ rfl
 ·exact⟨_,_,bl,by decide⟩
theorem jG(h:SX w K D F V g m Q jv T oj n N)(a:By w kv k)(b:N<=100000000) :
  Calls Tryz.prog 170 #[.pointer (some ⟨m,0,none⟩),kv] w fun e w'=>∃ v,e=.returned (.tuple #[v,.bool (look Q.flatten k).isSome])/\OB w' (w.heap.size <= ·) v ((look Q.flatten k).getD [])/\Below w.heap.size w w':=by
 have u:=mget h.map a b;rw[AE h.map.ord,jK h.map.ord] at u;exact u
theorem tU(h:SX w K D F V g m Q jv T oj n N)(a:By w kv k)(b:N<=100000000) :
  Calls Tryz.prog 121 #[.pointer (some ⟨g,0,none⟩),kv] w fun e w'=>e=.returned (.bool (look Q.flatten k).isSome)/\Below w.heap.size w w':=by
 have c0:=h.blk.cell (i:=0) rfl;have u:=jG h a b;obtain⟨f,c,rfl,-⟩:=id a.ex;generalize (look Q.flatten k).isSome=r at *;generalize (look Q.flatten k).getD []=L at *;clear h a;go_enter Tryz.func121,Tryz.ntmps121;go_wp2_with (go_at_call 170; refine u.mono ?_; rintro e d ⟨v,rfl,O,B⟩; obtain⟨a1,c1,rfl,-⟩:=id O.by.ex);go_ret;exact⟨rfl,B⟩
end
end Kv
end
section
namespace Kv
open Go.RowKit Go.Lib Pg
section
variable {w w':World}{K D F V D':Nat->Prop}{g m n N o:Nat}{Q Q':List (List KV)}{jv v u kv:Value}{T:List Jr}{oj:Option Nat}{ao:Option Addr}
attribute [local go_sem] Oper.semAt_some
theorem aB{p:Prop}(h:p):Hid p:=h
theorem SX.vars{S:Nat->Prop}(h:SX w K D F V g m Q jv T oj n N)(f:∀ b,S b->¬ F b)(d:∀ b,S b->∃ cs t,Blk w b cs t/\(t=37\/t=96))(c:∀ b,b < w.heap.size->D b->D' b) :
  SX w (fun b=>K b\/S b) D' F (fun b=>V b\/S b) g m Q jv T oj n N :=
 ⟨h.blk,h.map.mono c,h.jn.mono (fun _=>.inl) c,h.tot,h.len,.inl h.own.top,fun b hb=>.inl (h.own.map b hb),fun b hb=>hb.imp (h.own.var b) id,fun b hb=>.inl (h.own.jrn b hb),fun j a b hb=>.inl (h.own.bck j a b hb),fun b hb=>hb.elim (h.own.kind b) (fun hs=>by
  obtain⟨cs,t,k,e⟩:=d b hs;exact⟨cs,t,k,by rcases e with e | e<;>subst e<;>decide⟩),h.own.pZ,fun b hb=>hb.elim (h.own.r6 b) (f b),h.own.qB,h.own.nM,fun b hb=>hb.elim (h.own.vk b) (d b)⟩
theorem SX.mapped{F':Nat->Prop}{N':Nat}(h:SX w K D F V g m Q jv T oj n N)(s:Kv.tot T + Q'.flatten.length<=N')(q:Mp w' F' D' m Q' N')(hF:∀ b,F' b->F b\/w.heap.size<=b)(r:∀ b,D b->D' b)(hc:Chg F w w') :
  SX w' (fun b=>(K b/\¬ F b)\/F' b) D' F' V g m Q' jv T oj n N':=by
 have i:∀ b,K b->b < w.heap.size:=fun b hb=>by obtain⟨cs,t,k,_⟩:=h.own.kind b hb; exact k.lt
 have no:∀ b,K b->¬ F b->¬ F' b:=fun b hb hn hf=>by
  rcases hF b hf with o | o
  ·exact hn o
  ·have:=i b hb; omega
 have hs:kX V D w w':=⟨fun b _ _ c k _=>hc.same b k.lt (h.own.r6 b c),fun b p _ k=>hc.same b p (fun f=>by obtain⟨cs,k⟩:=k; exact h.map.noU f cs k)⟩
 have a:JnA w' V D g jv T oj:=h.jn.stay hs (fun b e=>hc.same b (i b (h.own.jrn b e)) (h.own.qB b e)) (fun j a b e=>hc.same b (i b (h.own.bck j a b e)) (h.own.nM j a b e));refine⟨h.blk.chg hc h.own.pZ,q,a.mono (fun _ h=>h) (fun b _=>r b),s,h.len,.inl ⟨h.own.top,h.own.pZ⟩,fun b=>.inr,fun b hb=>.inl ⟨h.own.var b hb,h.own.r6 b hb⟩,fun b hb=>.inl ⟨h.own.jrn b hb,h.own.qB b hb⟩,fun j a b hb=>.inl ⟨h.own.bck j a b hb,h.own.nM j a b hb⟩,fun b hb => ?_,no g h.own.top h.own.pZ,fun b hb=>no b (h.own.var b hb) (h.own.r6 b hb),fun b hb=>no b (h.own.jrn b hb) (h.own.qB b hb),fun j a b hb=>no b (h.own.bck j a b hb) (h.own.nM j a b hb),fun b c=>by
  obtain⟨cs,t,k,d⟩:=h.own.vk b c;exact⟨cs,t,k.same (hs.var b cs t c k d),d⟩⟩
 have l:∀ b,F' b->∃ cs t,Blk w' b cs t/\t≠5:=fun b hf=>by
  obtain⟨L,_,A,_⟩:=q.ex;exact A.kind b hf
 rcases hb with⟨hb,hf⟩ | hb
 ·obtain⟨cs,t,k,d⟩:=h.own.kind b hb;exact⟨cs,t,k.chg hc hf,d⟩
 ·exact l b hb
theorem DO(c:w.cell? ⟨g,o,none⟩=some v):(loadVar 37 ⟨g,o,none⟩).run Tryz.prog w=.ok v w:=by go_simp
theorem xo(c:w.cell? ⟨g,o,none⟩=some v):(loadVar 86 ⟨g,o,none⟩).run Tryz.prog w=.ok v w:=by go_simp
theorem DY(c:w.cell? ⟨g,o,none⟩=some v):(loadVar 96 ⟨g,o,none⟩).run Tryz.prog w=.ok v w:=by go_simp
theorem lC{a:Act}{o:Oper}(k q:Nat){c:Nat}(d:o.op=.store 96 (.tmp k) (.tmp q))(b:a.eval (.tmp k)=.pointer (some ⟨g,0,none⟩))(e:a.eval (.tmp q)=.slice ao n c)(hc:w.cell? ⟨g,0,none⟩=some u)(hf:w.frozen? ⟨g,0,none⟩=false) :
  (execOp a.eval o).run Tryz.prog w=.ok .skip (w.setCell ⟨g,0,none⟩ (.slice ao n c)):=by
 simp only[execOp,d,b,e];go_simp
def Rds(g m s1 s2:Nat)(jv:Value)(n:Int)(kv:Value)(w:World):Prop:=Blk w s1 [.pointer (some ⟨g,0,none⟩)] 37/\Blk w g [.pointer (some ⟨m,0,none⟩),jv,.int .i64 n] 94/\Blk w s2 [kv] 96
theorem Rds.keep{s1 s2:Nat}{n:Int}(h:Rds g m s1 s2 jv n kv w)(hb:Below w.heap.size w w'):Rds g m s1 s2 jv n kv w':=⟨h.1.keep hb,h.2.1.keep hb,h.2.2.keep hb⟩
end
end Kv
end
section
namespace Kv
open Go.RowKit Go.Lib Pg
section
variable {w:World}{D:Nat->Prop}{v:Value}{l:List Int}{cs:List Value}
attribute [local go_sem] Oper.semAt_some
theorem gP{w':World}{x:Nat}(hc:Chg (· = x) w w')(hx:Blk w x cs 96)(O:OB w D v l):OB w' D v l :=
 ⟨O.oct,O.ex.imp id (by
  rintro⟨b,c,e,g,a⟩;refine⟨b,c,e,g,a.chg hc (fun f => ?_)⟩
  have e2:b=x:=f;subst e2;obtain⟨d,k⟩:=a.kind;exact absurd (hx.eq k).2 (by decide))⟩
def Rst(w : World)(g : Nat)(k L : List Int)(there : Bool)(e : Ending)(w' : World) : Prop := ∃ s1 s2 s3 v1 v3, e = .returned (.func (.func (if there then 192 else 191)) #[] (if there then #[.pointer (some ⟨s1, 0, none⟩), .pointer (some ⟨s2, 0, none⟩), .pointer (some ⟨s3, 0, none⟩)] else #[.pointer (some ⟨s1, 0, none⟩), .pointer (some ⟨s2, 0, none⟩)])) ∧
      w.heap.size ≤ s1 ∧ w.heap.size ≤ s2 ∧ w.heap.size ≤ s3 ∧ Blk w' s1 [.pointer (some ⟨g, 0, none⟩)] 37 ∧ Blk w' s2 [v1] 96 ∧ Blk w' s3 [v3] 96 ∧ OB w' (w.heap.size ≤ ·) v1 k ∧ OB w' (w.heap.size ≤ ·) v3 L ∧ Below w.heap.size w w'
theorem p5{g m:Nat}{jv kv:Value}{n:Int}{k L:List Int}{there:Bool}(hg:Blk w g [.pointer (some ⟨m,0,none⟩),jv,.int .i64 n] 94)(hk:By w kv k)(aa:k.length<=1000000000)(u:∀ w' kv',Below w.heap.size w w'->By w' kv' k->Calls Tryz.prog 170 #[.pointer (some ⟨m,0,none⟩),kv'] w' fun e w''=>∃ v,e=.returned (.tuple #[v,.bool there])/\OB w'' (w'.heap.size <= ·) v L/\Below w'.heap.size w' w'') :
  Calls Tryz.prog 145 #[.pointer (some ⟨g,0,none⟩),kv] w (Rst w g k L there):=by
 obtain⟨ao,c,rfl,-⟩:=id hk.ex;have b1:=aC w [.pointer (some ⟨g,0,none⟩)] 37;have al:=ae w (.cells #[.pointer (some ⟨g,0,none⟩)] 37)
 have U:(w.alloc (.cells #[.pointer (some ⟨g,0,none⟩)] 37)).heap.size=w.heap.size + 1:=by simp
 have t1:=cC (hk.keep al) aa;have J:=aB hg;have I:=aB u;have V:=hg.lt;clear u hg;generalize K:k.length=s at *
 cases there
 ·go_enter Tryz.func145,Tryz.ntmps145;go_wp2_with (go_at_call 78; refine t1.mono ?_; rintro e r ⟨v1,rfl,o,E⟩; obtain⟨a1,c1,rfl⟩:∃ a1 c1,v1=.slice a1 k.length c1:=(by obtain⟨a1,c1,e,_⟩:=o.by.ex; exact⟨a1,c1,e⟩));rw[K] at o;have N:=E.size;have t:=ae r (.cells #[.slice a1 s c1] 96)
  have hS:Rds g m w.heap.size r.heap.size jv n (.slice a1 s c1) (r.alloc (.cells #[.slice a1 s c1] 96)).drew:=⟨((b1.keep E).keep t).drew,(((J.out.keep al).keep E).keep t).drew,(aC r [.slice a1 s c1] 96).drew⟩
  have F:Below w.heap.size w (r.alloc (.cells #[.slice a1 s c1] 96)).drew:=aj (aj (aj al E) t) ⟨rfl,rfl,rfl,Nat.le_refl _,fun _ _=>rfl⟩
  have O:r.heap.size < (r.alloc (.cells #[.slice a1 s c1] 96)).drew.heap.size:=by show _ < (r.alloc _).heap.size; simp
  replace o:=((o.mono (D':=(w.heap.size <= ·)) (fun b _ h=>by omega)).keep t).keep (w':=(r.alloc (.cells #[.slice a1 s c1] 96)).drew) ⟨rfl,rfl,rfl,Nat.le_refl _,fun _ _=>rfl⟩;clear t1 t b1 al;clear E;refine bT (S:=Rds g m w.heap.size r.heap.size jv n (.slice a1 s c1)) (by kernel_rfl) hS ?_
  generalize (r.alloc (.cells #[.slice a1 s c1] 96)).drew=X at *;refine M 0 (some 11) (.pointer (some ⟨g,0,none⟩)) 37 2 w.heap.size 0 (by kernel_rfl) (by kernel_rfl) (by kernel_rfl) (fun w' h=>W (h.1.cell (i:=0) rfl)) (fun _ _ _ h=>h) hS ?_
  refine A 1 (some 12) (.pointer (some ⟨g,0,none⟩)) (by kernel_rfl) (fun _ _=>by kernel_rfl) (fun _ _ _ h=>h) hS ?_
  refine A 2 (some 13) (.pointer (some ⟨g,0,none⟩)) (by kernel_rfl) (fun _ _=>by kernel_rfl) (fun _ _ _ h=>h) hS ?_
  refine M 3 (some 14) (.pointer (some ⟨m,0,none⟩)) 86 13 g 0 (by kernel_rfl) (by kernel_rfl) (by kernel_rfl) (fun w' h=>Y (h.2.1.cell (i:=0) rfl)) (fun _ _ _ h=>h) hS ?_
  refine M 4 (some 15) (.slice a1 s c1) 96 5 r.heap.size 0 (by kernel_rfl) (by kernel_rfl) (by kernel_rfl) (fun w' h=>DY (h.2.2.cell (i:=0) rfl)) (fun _ _ _ h=>h) hS ?_
  have D:=ae X (.cells #[.slice none 0 0] 96);refine aK [5,9] (by kernel_rfl) (by simp) (uI 5 (some 16) 170 #[.pointer (some ⟨m,0,none⟩),.slice a1 s c1] (by kernel_rfl) (by kernel_rfl) (I.out _ _ F o.by) ?_ (bH 9 (some 6) (.pointer (some ⟨X.heap.size,0,none⟩)) (X.alloc (.cells #[.slice none 0 0] 96)) (by kernel_rfl) (by kernel_rfl) (hS.keep D) ?_ aW))
  ·rintro P y ⟨v3,rfl,x,z⟩;obtain⟨a3,d,rfl⟩:∃ a3 d,v3=.slice a3 L.length d:=(by obtain⟨a3,d,e,_⟩:=x.by.ex; exact⟨a3,d,e⟩)
   refine⟨_,rfl,hS.keep z,?_⟩;replace hS:=hS.keep z;replace o:=o.keep z;generalize L.length=p at *;refine A 6 (some 10) (.tuple #[.slice a3 p d,.bool false]) (by kernel_rfl) (fun _ _=>by kernel_rfl) (fun _ _ _ h=>h) hS ?_
   refine A 7 (some 17) (.slice a3 p d) (by kernel_rfl) (fun _ _=>by kernel_rfl) (fun _ _ _ h=>h) hS ?_
   refine A 8 (some 18) (.bool false) (by kernel_rfl) (fun _ _=>by kernel_rfl) (fun _ _ _ h=>h) hS ?_
   have C:=aj F z;have Q:=z.size;refine aK [9] (by kernel_rfl) (by simp) (bH 9 (some 6) (.pointer (some ⟨y.heap.size,0,none⟩)) (y.alloc (.cells #[.slice none 0 0] 96)) (by kernel_rfl) (by kernel_rfl) (hS.keep (ae y _)) ?_ aW);have H:=ae y (.cells #[.slice none 0 0] 96);replace hS:=hS.keep H;replace o:=o.keep H;replace x:=(x.mono (D':=(w.heap.size <= ·)) (fun b _ h=>by have R:X.heap.size<=b:=h; omega)).keep H;have b3:=aC y [.slice none 0 0] 96;replace C:=aj C H;have f:=b3.cell (i:=0) rfl;have j:=b3.free 0
   have q:Chg (· = y.heap.size) (y.alloc (.cells #[.slice none 0 0] 96)) ((y.alloc (.cells #[.slice none 0 0] 96)).setCell ⟨y.heap.size,0,none⟩ (.slice a3 p d)):=(Chg.refl (· = y.heap.size) (y.alloc (.cells #[.slice none 0 0] 96))).cell (.inl rfl) _
   have l:Rds g m w.heap.size r.heap.size jv n (.slice a1 s c1) ((y.alloc (.cells #[.slice none 0 0] 96)).setCell ⟨y.heap.size,0,none⟩ (.slice a3 p d)):=⟨hS.1.chg q (by omega),hS.2.1.chg q (by omega),hS.2.2.chg q (by omega)⟩
   refine aK [10] (by kernel_rfl) (by simp) (dm 10 ((y.alloc (.cells #[.slice none 0 0] 96)).setCell ⟨y.heap.size,0,none⟩ (.slice a3 p d)) (by kernel_rfl) (lC 6 17 (by kernel_rfl) (by kernel_rfl) (by kernel_rfl) f j) l ?_ aW);refine A 11 (some 7) (.bool false) (by kernel_rfl) (fun _ _=>by kernel_rfl) (fun _ _ _ h=>h) l ?_
   refine bF (by kernel_rfl) ?_
   simp only[Act.put,List.setIfInBounds_toArray,List.set_cons_zero,List.set_cons_succ];have a:=aB (And.intro (b3.setCell (i:=0) (.slice a3 p d)) (And.intro (gP q b3 x) (And.intro (gP q b3 o) (And.intro l (C.trans (q.below (B:=w.heap.size) (fun b e=>by omega) C.size))))));have g3:=aB (show w.heap.size<=y.heap.size by omega);clear f j q b3 x hS D o C l I F J;generalize (y.alloc (.cells #[.slice none 0 0] 96)).setCell ⟨y.heap.size,0,none⟩ (.slice a3 p d)=Z at *;go_wp2;go_ret;exact⟨_,_,_,_,_,rfl,Nat.le_refl _,by omega,g3.out,a.out.2.2.2.1.1,a.out.2.2.2.1.2.2,a.out.1,a.out.2.2.1,a.out.2.1,a.out.2.2.2.2⟩
  ·replace hS:=hS.keep D;replace o:=o.keep D;have G:=aj F D;have b3:=aC X [.slice none 0 0] 96
   have T:X.heap.size < (X.alloc (.cells #[.slice none 0 0] 96)).heap.size:=by simp
   refine bN 5 (some 16) 170 #[.pointer (some ⟨m,0,none⟩),.slice a1 s c1] (by kernel_rfl) (by kernel_rfl) (I.out _ _ G o.by) ?_
   rintro P y ⟨v3,rfl,x,z⟩;obtain⟨a3,d,rfl⟩:∃ a3 d,v3=.slice a3 L.length d:=(by obtain⟨a3,d,e,_⟩:=x.by.ex; exact⟨a3,d,e⟩)
   refine⟨_,rfl,hS.keep z,?_⟩;replace hS:=hS.keep z;replace o:=o.keep z;generalize L.length=p at *;refine A 6 (some 10) (.tuple #[.slice a3 p d,.bool false]) (by kernel_rfl) (fun _ _=>by kernel_rfl) (fun _ _ _ h=>h) hS ?_
   refine A 7 (some 17) (.slice a3 p d) (by kernel_rfl) (fun _ _=>by kernel_rfl) (fun _ _ _ h=>h) hS ?_
   refine A 8 (some 18) (.bool false) (by kernel_rfl) (fun _ _=>by kernel_rfl) (fun _ _ _ h=>h) hS ?_
   have C:=aj G z;replace b3:=b3.keep z;replace x:=x.mono (D':=(w.heap.size <= ·)) (fun b _ h=>by have R:(X.alloc (.cells #[.slice none 0 0] 96)).heap.size<=b:=h; omega);have f:=b3.cell (i:=0) rfl;have j:=b3.free 0
   have q:Chg (· = X.heap.size) (y) ((y).setCell ⟨X.heap.size,0,none⟩ (.slice a3 p d)):=(Chg.refl (· = X.heap.size) (y)).cell (.inl rfl) _
   have l:Rds g m w.heap.size r.heap.size jv n (.slice a1 s c1) ((y).setCell ⟨X.heap.size,0,none⟩ (.slice a3 p d)):=⟨hS.1.chg q (by omega),hS.2.1.chg q (by omega),hS.2.2.chg q (by omega)⟩
   refine aK [10] (by kernel_rfl) (by simp) (dm 10 ((y).setCell ⟨X.heap.size,0,none⟩ (.slice a3 p d)) (by kernel_rfl) (lC 6 17 (by kernel_rfl) (by kernel_rfl) (by kernel_rfl) f j) l ?_ aW);refine A 11 (some 7) (.bool false) (by kernel_rfl) (fun _ _=>by kernel_rfl) (fun _ _ _ h=>h) l ?_
   refine bF (by kernel_rfl) ?_
   simp only[Act.put,List.setIfInBounds_toArray,List.set_cons_zero,List.set_cons_succ];have a:=aB (And.intro (b3.setCell (i:=0) (.slice a3 p d)) (And.intro (gP q b3 x) (And.intro (gP q b3 o) (And.intro l (C.trans (q.below (B:=w.heap.size) (fun b e=>by omega) C.size))))));have g3:=aB (show w.heap.size<=X.heap.size by omega);clear f j q b3 x hS D o C l I F J;generalize (y).setCell ⟨X.heap.size,0,none⟩ (.slice a3 p d)=Z at *;go_wp2;go_ret;exact⟨_,_,_,_,_,rfl,Nat.le_refl _,by omega,g3.out,a.out.2.2.2.1.1,a.out.2.2.2.1.2.2,a.out.1,a.out.2.2.1,a.out.2.1,a.out.2.2.2.2⟩
 ·go_enter Tryz.func145,Tryz.ntmps145;go_wp2_with (go_at_call 78; refine t1.mono ?_; rintro e r ⟨v1,rfl,o,E⟩; obtain⟨a1,c1,rfl⟩:∃ a1 c1,v1=.slice a1 k.length c1:=(by obtain⟨a1,c1,e,_⟩:=o.by.ex; exact⟨a1,c1,e⟩));rw[K] at o;have N:=E.size;have t:=ae r (.cells #[.slice a1 s c1] 96)
  have hS:Rds g m w.heap.size r.heap.size jv n (.slice a1 s c1) (r.alloc (.cells #[.slice a1 s c1] 96)).drew:=⟨((b1.keep E).keep t).drew,(((J.out.keep al).keep E).keep t).drew,(aC r [.slice a1 s c1] 96).drew⟩
  have F:Below w.heap.size w (r.alloc (.cells #[.slice a1 s c1] 96)).drew:=aj (aj (aj al E) t) ⟨rfl,rfl,rfl,Nat.le_refl _,fun _ _=>rfl⟩
  have O:r.heap.size < (r.alloc (.cells #[.slice a1 s c1] 96)).drew.heap.size:=by show _ < (r.alloc _).heap.size; simp
  replace o:=((o.mono (D':=(w.heap.size <= ·)) (fun b _ h=>by omega)).keep t).keep (w':=(r.alloc (.cells #[.slice a1 s c1] 96)).drew) ⟨rfl,rfl,rfl,Nat.le_refl _,fun _ _=>rfl⟩;clear t1 t b1 al;clear E;refine bT (S:=Rds g m w.heap.size r.heap.size jv n (.slice a1 s c1)) (by kernel_rfl) hS ?_
  generalize (r.alloc (.cells #[.slice a1 s c1] 96)).drew=X at *;refine M 0 (some 11) (.pointer (some ⟨g,0,none⟩)) 37 2 w.heap.size 0 (by kernel_rfl) (by kernel_rfl) (by kernel_rfl) (fun w' h=>W (h.1.cell (i:=0) rfl)) (fun _ _ _ h=>h) hS ?_
  refine A 1 (some 12) (.pointer (some ⟨g,0,none⟩)) (by kernel_rfl) (fun _ _=>by kernel_rfl) (fun _ _ _ h=>h) hS ?_
  refine A 2 (some 13) (.pointer (some ⟨g,0,none⟩)) (by kernel_rfl) (fun _ _=>by kernel_rfl) (fun _ _ _ h=>h) hS ?_
  refine M 3 (some 14) (.pointer (some ⟨m,0,none⟩)) 86 13 g 0 (by kernel_rfl) (by kernel_rfl) (by kernel_rfl) (fun w' h=>Y (h.2.1.cell (i:=0) rfl)) (fun _ _ _ h=>h) hS ?_
  refine M 4 (some 15) (.slice a1 s c1) 96 5 r.heap.size 0 (by kernel_rfl) (by kernel_rfl) (by kernel_rfl) (fun w' h=>DY (h.2.2.cell (i:=0) rfl)) (fun _ _ _ h=>h) hS ?_
  have D:=ae X (.cells #[.slice none 0 0] 96);refine aK [5,9] (by kernel_rfl) (by simp) (uI 5 (some 16) 170 #[.pointer (some ⟨m,0,none⟩),.slice a1 s c1] (by kernel_rfl) (by kernel_rfl) (I.out _ _ F o.by) ?_ (bH 9 (some 6) (.pointer (some ⟨X.heap.size,0,none⟩)) (X.alloc (.cells #[.slice none 0 0] 96)) (by kernel_rfl) (by kernel_rfl) (hS.keep D) ?_ aW))
  ·rintro P y ⟨v3,rfl,x,z⟩;obtain⟨a3,d,rfl⟩:∃ a3 d,v3=.slice a3 L.length d:=(by obtain⟨a3,d,e,_⟩:=x.by.ex; exact⟨a3,d,e⟩)
   refine⟨_,rfl,hS.keep z,?_⟩;replace hS:=hS.keep z;replace o:=o.keep z;generalize L.length=p at *;refine A 6 (some 10) (.tuple #[.slice a3 p d,.bool true]) (by kernel_rfl) (fun _ _=>by kernel_rfl) (fun _ _ _ h=>h) hS ?_
   refine A 7 (some 17) (.slice a3 p d) (by kernel_rfl) (fun _ _=>by kernel_rfl) (fun _ _ _ h=>h) hS ?_
   refine A 8 (some 18) (.bool true) (by kernel_rfl) (fun _ _=>by kernel_rfl) (fun _ _ _ h=>h) hS ?_
   have C:=aj F z;have Q:=z.size;refine aK [9] (by kernel_rfl) (by simp) (bH 9 (some 6) (.pointer (some ⟨y.heap.size,0,none⟩)) (y.alloc (.cells #[.slice none 0 0] 96)) (by kernel_rfl) (by kernel_rfl) (hS.keep (ae y _)) ?_ aW);have H:=ae y (.cells #[.slice none 0 0] 96);replace hS:=hS.keep H;replace o:=o.keep H;replace x:=(x.mono (D':=(w.heap.size <= ·)) (fun b _ h=>by have R:X.heap.size<=b:=h; omega)).keep H;have b3:=aC y [.slice none 0 0] 96;replace C:=aj C H;have f:=b3.cell (i:=0) rfl;have j:=b3.free 0
   have q:Chg (· = y.heap.size) (y.alloc (.cells #[.slice none 0 0] 96)) ((y.alloc (.cells #[.slice none 0 0] 96)).setCell ⟨y.heap.size,0,none⟩ (.slice a3 p d)):=(Chg.refl (· = y.heap.size) (y.alloc (.cells #[.slice none 0 0] 96))).cell (.inl rfl) _
   have l:Rds g m w.heap.size r.heap.size jv n (.slice a1 s c1) ((y.alloc (.cells #[.slice none 0 0] 96)).setCell ⟨y.heap.size,0,none⟩ (.slice a3 p d)):=⟨hS.1.chg q (by omega),hS.2.1.chg q (by omega),hS.2.2.chg q (by omega)⟩
   refine aK [10] (by kernel_rfl) (by simp) (dm 10 ((y.alloc (.cells #[.slice none 0 0] 96)).setCell ⟨y.heap.size,0,none⟩ (.slice a3 p d)) (by kernel_rfl) (lC 6 17 (by kernel_rfl) (by kernel_rfl) (by kernel_rfl) f j) l ?_ aW);refine A 11 (some 7) (.bool true) (by kernel_rfl) (fun _ _=>by kernel_rfl) (fun _ _ _ h=>h) l ?_
   refine bF (by kernel_rfl) ?_
   simp only[Act.put,List.setIfInBounds_toArray,List.set_cons_zero,List.set_cons_succ];have a:=aB (And.intro (b3.setCell (i:=0) (.slice a3 p d)) (And.intro (gP q b3 x) (And.intro (gP q b3 o) (And.intro l (C.trans (q.below (B:=w.heap.size) (fun b e=>by omega) C.size))))));have g3:=aB (show w.heap.size<=y.heap.size by omega);clear f j q b3 x hS D o C l I F J;generalize (y.alloc (.cells #[.slice none 0 0] 96)).setCell ⟨y.heap.size,0,none⟩ (.slice a3 p d)=Z at *;go_wp2;go_ret;exact⟨_,_,_,_,_,rfl,Nat.le_refl _,by omega,g3.out,a.out.2.2.2.1.1,a.out.2.2.2.1.2.2,a.out.1,a.out.2.2.1,a.out.2.1,a.out.2.2.2.2⟩
  ·replace hS:=hS.keep D;replace o:=o.keep D;have G:=aj F D;have b3:=aC X [.slice none 0 0] 96
   have T:X.heap.size < (X.alloc (.cells #[.slice none 0 0] 96)).heap.size:=by simp
   refine bN 5 (some 16) 170 #[.pointer (some ⟨m,0,none⟩),.slice a1 s c1] (by kernel_rfl) (by kernel_rfl) (I.out _ _ G o.by) ?_
   rintro P y ⟨v3,rfl,x,z⟩;obtain⟨a3,d,rfl⟩:∃ a3 d,v3=.slice a3 L.length d:=(by obtain⟨a3,d,e,_⟩:=x.by.ex; exact⟨a3,d,e⟩)
   refine⟨_,rfl,hS.keep z,?_⟩;replace hS:=hS.keep z;replace o:=o.keep z;generalize L.length=p at *;refine A 6 (some 10) (.tuple #[.slice a3 p d,.bool true]) (by kernel_rfl) (fun _ _=>by kernel_rfl) (fun _ _ _ h=>h) hS ?_
   refine A 7 (some 17) (.slice a3 p d) (by kernel_rfl) (fun _ _=>by kernel_rfl) (fun _ _ _ h=>h) hS ?_
   refine A 8 (some 18) (.bool true) (by kernel_rfl) (fun _ _=>by kernel_rfl) (fun _ _ _ h=>h) hS ?_
   have C:=aj G z;replace b3:=b3.keep z;replace x:=x.mono (D':=(w.heap.size <= ·)) (fun b _ h=>by have R:(X.alloc (.cells #[.slice none 0 0] 96)).heap.size<=b:=h; omega);have f:=b3.cell (i:=0) rfl;have j:=b3.free 0
   have q:Chg (· = X.heap.size) (y) ((y).setCell ⟨X.heap.size,0,none⟩ (.slice a3 p d)):=(Chg.refl (· = X.heap.size) (y)).cell (.inl rfl) _
   have l:Rds g m w.heap.size r.heap.size jv n (.slice a1 s c1) ((y).setCell ⟨X.heap.size,0,none⟩ (.slice a3 p d)):=⟨hS.1.chg q (by omega),hS.2.1.chg q (by omega),hS.2.2.chg q (by omega)⟩
   refine aK [10] (by kernel_rfl) (by simp) (dm 10 ((y).setCell ⟨X.heap.size,0,none⟩ (.slice a3 p d)) (by kernel_rfl) (lC 6 17 (by kernel_rfl) (by kernel_rfl) (by kernel_rfl) f j) l ?_ aW);refine A 11 (some 7) (.bool true) (by kernel_rfl) (fun _ _=>by kernel_rfl) (fun _ _ _ h=>h) l ?_
   refine bF (by kernel_rfl) ?_
   simp only[Act.put,List.setIfInBounds_toArray,List.set_cons_zero,List.set_cons_succ];have a:=aB (And.intro (b3.setCell (i:=0) (.slice a3 p d)) (And.intro (gP q b3 x) (And.intro (gP q b3 o) (And.intro l (C.trans (q.below (B:=w.heap.size) (fun b e=>by omega) C.size))))));have g3:=aB (show w.heap.size<=X.heap.size by omega);clear f j q b3 x hS D o C l I F J;generalize (y).setCell ⟨X.heap.size,0,none⟩ (.slice a3 p d)=Z at *;go_wp2;go_ret;exact⟨_,_,_,_,_,rfl,Nat.le_refl _,by omega,g3.out,a.out.2.2.2.1.1,a.out.2.2.2.1.2.2,a.out.1,a.out.2.2.1,a.out.2.1,a.out.2.2.2.2⟩
end
end Kv
end
section
namespace Kv
open Go.RowKit Go.Lib Pg
section
variable {w:World} {b n c i:Nat} {xs:List Value}
end
end Kv
end
section
namespace Kv
open Go.RowKit Go.Lib Pg
section
variable {w:World}{V D:Nat->Prop}{g:Nat}{j:Jr}{cs':List Value}{bv jv:Value}{l:List Nat}{o:Option Nat}{Q:List (List KV)}{T0:List Jr}
attribute [local go_sem] Oper.semAt_some
theorem ry(ao:Option Addr)(n c:Nat)(hn:n<=c)(bo:Option Addr)(c':Nat):(Builtin.append_ #[270,270] 270 #[.slice ao n c,.slice bo 0 c']).run Tryz.prog w=.ok (.slice ao n c) w:=by
 obtain⟨i,hi,d,hs,hb⟩:=info_parts KF.inf;have:(Builtin.firstCells i.size 0 (.slice bo 0 c')).run Tryz.prog w=.ok #[] w:=by
  cases bo with
  | none=>rfl
  | some a=>exact run_firstCells_some w i.size 0 a 0 c' [] (by simp) (fun j v b=>by simp at b)
 cases ao with
 | none=>simp[Builtin.append_,run_underlying KF.und,sizeOf,typeInfo,hi,Builtin.lenOf,this,hn]
 | some a=>simp[Builtin.append_,run_underlying KF.und,sizeOf,typeInfo,hi,Builtin.lenOf,this,hn,storeCells]
def Lies(w:World)(bv:Value)(cs:List Value):Prop:=(bv=.slice none 0 0/\cs=[])\/∃ a c,bv=.slice (some a) cs.length c/\∀ i x,cs[i]? = some x->w.cell? (a.add i)=some x
theorem yV{I:List Und}(J:JrA w V D g j)(hC:iF w V D g I cs')(hb:Lies w bv cs')(hlen:j.U.length + I.length<=1000000000) :
  ∃ v' o' w',(Builtin.append_ #[270,270] 270 #[j.v,bv]).run Tryz.prog w=.ok v' w'/\(∃ ao n c,v'=.slice ao n c)/\JrA w' V D g ⟨j.U ++ I,v',o'⟩/\(∀ b,o'=some b->j.o=some b\/b=w.heap.size)/\Chg (fun b=>j.o=some b) w w':=by
 obtain⟨cs,hc,C⟩:=J;have d:=hC.1;by_cases u:I=[]
 ·subst u
  have m:cs'=[]:=List.eq_nil_of_length_eq_zero (by rw[d]; rfl);subst m;obtain⟨t,l,rfl⟩:∃ t l,bv=.slice t 0 l:=by
   rcases hb with⟨e,_⟩ | ⟨a,c,e,_⟩
   ·exact⟨none,0,e⟩
   ·exact⟨some a,c,e⟩
  rcases C with⟨e1,e2,e3⟩ | ⟨b,c,e1,e2,hR⟩
  ·refine⟨_,j.o,w,by rw[e2]; exact ry none 0 0 (Nat.le_refl _) t l,⟨none,0,0,rfl⟩,⟨cs,by simpa using hc,.inl ⟨e1,rfl,by simpa using e3⟩⟩,fun b h=>.inl h,Chg.refl _ _⟩
  ·refine⟨_,j.o,w,by rw[e2]; exact ry _ _ _ hR.le.1 t l,⟨_,_,_,rfl⟩,⟨cs,by simpa using hc,.inr ⟨b,c,e1,by simp,by simpa using hR⟩⟩,fun b h=>.inl h,Chg.refl _ _⟩
 ·obtain⟨a,ca,rfl,f⟩:∃ a c,bv=.slice (some a) cs'.length c/\∀ i x,cs'[i]? = some x->w.cell? (a.add i)=some x:=by
   rcases hb with⟨_,e⟩ | h
   ·rw[e] at d; exact absurd (List.eq_nil_of_length_eq_zero d.symm) u
   ·exact h
  have q:0 < cs'.length:=by rw[d]; exact List.length_pos_iff.2 u
  rcases C with⟨e1,e2,e3⟩ | ⟨b,c,e1,e2,hR⟩
  ·have m:cs=[]:=List.eq_nil_of_length_eq_zero (by rw[hc.1,e3]; rfl);subst m;obtain⟨l,W,y,p,z⟩:=fi (w:=w) KF 270 a cs'.length ca cs' (by simp) f q (by omega) (by omega);refine⟨_,some w.heap.size,W,by rw[e2]; exact y,⟨_,_,_,rfl⟩,⟨cs',?_,.inr ⟨_,l,rfl,by rw[e3,d]; rfl,by rw[e3]; simpa[d] using p⟩⟩,fun b h=>.inr (by cases h; rfl),Chg.of z⟩;rw[e3];exact hC.stay ⟨fun b _ _ _ k _=>z.block b k.lt,fun b F _ _=>z.block b F⟩
  ·obtain⟨E,l,W,y,A,p,r⟩:=dz KF 270 hR a cs'.length ca cs' (by simp) f hC.one (by omega) (by omega);obtain⟨G,B⟩:=hR.kind
   have s:kX V D w W:=ll B (by decide) (by decide) (by decide) r;refine⟨_,some E,W,by rw[e2]; exact y,⟨_,_,_,rfl⟩,⟨cs ++ cs',(hc.stay s).app (hC.stay s),.inr ⟨E,l,rfl,by simp[d],by simpa[d] using p⟩⟩,fun x h => ?_,r.mono (fun x _ e=>by have H:x=b:=e; rw[H,e1])⟩
   cases h;rcases A with e | e
   ·exact .inl (by rw[e1,e])
   ·exact .inr e
theorem qx(T0:List Jr)(j:Jr):tot (T0 ++ [j])=tot T0 + j.U.length:=by simp[tot]
theorem lN : (l ++ o.toList).Nodup ↔ l.Nodup ∧ ∀ b, o = some b → b ∉ l := by
  cases o with
  | none => simp
  | some x => simp[List.nodup_append]; intro _; constructor
              · intro h hx; exact h x hx rfl
              · intro h a c e; subst e; exact h c
theorem uL(T0:List Jr)(j:Jr):(T0 ++ [j]).filterMap Jr.o=T0.filterMap Jr.o ++ j.o.toList:=by
 rw[List.filterMap_append];congr 1
theorem SX.inner{G:World}{K F:Nat->Prop}{m C:Nat}{j':Jr}{n N N':Nat}(h:SX w K D F V g m Q jv (T0 ++ [j]) (some C) n N)(I:JrA G V D g j')(H:∀ b,j'.o=some b->j.o=some b\/w.heap.size<=b)(J:N<=N')(B:Kv.tot (T0 ++ [j']) + Q.flatten.length<=N')(E:∃ c,jv=.slice (some ⟨C,0,none⟩) (T0 ++ [j]).length c/\Rw G 273 1 C (T0 ++ [j]).length c ((T0 ++ [j']).map Jr.v))(hc:Chg (fun b=>j.o=some b\/b=C) w G) :
  SX G (fun b=>(K b/\¬ j.o=some b)\/j'.o=some b) D F V g m Q jv (T0 ++ [j']) (some C) n N':=by
 have d:j∈T0 ++ [j]:=by simp
 have hx:∀ b cs t,Blk w b cs t->t≠1->t≠273->G.heap[b]? = w.heap[b]? := fun b cs t k i s=>hc.same b k.lt (fun e=>by
  rcases e with e | e
  ·obtain⟨l,p⟩:=(h.jn.each j d).kind e;exact i (k.eq p).2
  ·subst e;obtain⟨l,p⟩:=h.jn.kind rfl;exact s (k.eq p).2)
 have u:∀ b,(j.o=some b\/b=C)->¬ F b:=fun b e=>e.elim (h.own.nM j d b) (fun e=>by subst e; exact h.own.qB _ rfl)
 have q:kX V D w G:=⟨fun b cs t _ k B=>hx b cs t k (by rcases B with e | e<;>subst e<;>decide) (by rcases B with e | e<;>subst e<;>decide),fun b _ _ k=>by obtain⟨cs,k⟩:=k; exact hx b cs _ k (by decide) (by decide)⟩
 have r:∀ t∈T0 ++ [j],∀ b,t.o=some b->b < w.heap.size:=fun t B b e=>by obtain⟨cs,k⟩:=(h.jn.each t B).kind e; exact k.lt
 have f:=h.jn.apart;rw[uL,lN] at f;refine⟨⟨by rw[hx g _ _ h.blk (by decide) (by decide)]; exact h.blk.blk⟩,h.map.same (fun b hF=>hc.same b (h.map.lt hF) (fun e=>u b e hF)) (fun b _ _ k=>by obtain⟨cs,k⟩:=k; exact hx b cs _ k (by decide) (by decide)) |>.more J,⟨?_,?_,?_⟩,B,by have:=h.len; simp at this ⊢; omega,?_⟩
 ·obtain⟨c,e,x⟩:=E;exact .inr ⟨C,c,rfl,by rw[e]; simp,by simpa using x⟩
 ·intro t B;rcases List.mem_append.1 B with a | a
  ·refine(h.jn.each t (List.mem_append_left _ a)).stay q (fun b e => ?_);refine hc.same b (r t (List.mem_append_left _ a) b e) (fun e2 => ?_);rcases e2 with e2 | e2
   ·exact f.2 b e2 (List.mem_filterMap.2 ⟨t,a,e⟩)
   ·subst e2;obtain⟨cs,k⟩:=(h.jn.each t (List.mem_append_left _ a)).kind e;obtain⟨l,p⟩:=h.jn.kind rfl;exact absurd (k.eq p).2 (by decide)
  ·simp at a; subst a; exact I
 ·rw[uL,lN];refine⟨f.1,fun b e hm => ?_⟩;rcases H b e with i | i
  ·exact f.2 b i hm
  ·obtain⟨t,s,A⟩:=List.mem_filterMap.1 hm;have:=r t (List.mem_append_left _ s) b A;omega
 ·have y:∀ b cs t,Blk w b cs t->t≠1->¬ j.o=some b:=fun b cs t k i e=>by
   obtain⟨l,p⟩:=(h.jn.each j d).kind e;exact i (k.eq p).2
  refine⟨.inl ⟨h.own.top,y g _ _ h.blk (by decide)⟩,fun b hb=>.inl ⟨h.own.map b hb,fun e=>h.own.nM j d b e hb⟩,fun b hb => ?_,fun b hb => ?_,fun t B b e => ?_,fun b hb => ?_,h.own.pZ,h.own.r6,h.own.qB,fun t B b e => ?_,fun b z=>by
   obtain⟨cs,t,k,B⟩:=h.own.vk b z;exact⟨cs,t,k.same (q.var b cs t z k B),B⟩⟩
  ·obtain⟨cs,t,k,B⟩:=h.own.vk b hb;exact .inl ⟨h.own.var b hb,y b cs t k (by rcases B with e | e<;>subst e<;>decide)⟩
  ·cases hb;obtain⟨l,p⟩:=h.jn.kind rfl;exact .inl ⟨h.own.jrn _ rfl,y _ _ _ p (by decide)⟩
  ·rcases List.mem_append.1 B with a | a
   ·exact .inl ⟨h.own.bck t (List.mem_append_left _ a) b e,fun e2=>f.2 b e2 (List.mem_filterMap.2 ⟨t,a,e⟩)⟩
   ·simp at a; subst a; exact .inr e
  ·rcases hb with⟨hb,hn⟩ | hb
   ·by_cases e:b=C
    ·subst e;obtain⟨c,_,x⟩:=E;obtain⟨cs,k⟩:=x.kind;exact⟨cs,_,k,by decide⟩
    ·obtain⟨cs,t,k,B⟩:=h.own.kind b hb;exact⟨cs,t,k.chg hc (fun e2=>e2.elim hn e),B⟩
   ·obtain⟨cs,k⟩:=I.kind hb;exact⟨cs,_,k,by decide⟩
  ·rcases List.mem_append.1 B with a | a
   ·exact h.own.nM t (List.mem_append_left _ a) b e
   ·simp at a; subst a;rcases H b e with i | i
    ·exact h.own.nM j d b i
    ·intro hF;have:=h.map.lt hF;omega
end
end Kv
end
section
namespace Kv
open Go.RowKit Go.Lib Pg
section
variable {w:World}{V D:Nat->Prop}{g:Nat}{jv bv:Value}{T0:List Jr}{j:Jr}{oj:Option Nat}{Q:List (List KV)}{cs':List Value}
attribute [local go_sem] Oper.semAt_some
theorem wX(T0:List Jr)(j j':Jr):((T0 ++ [j]).map Jr.v).set T0.length j'.v=(T0 ++ [j']).map Jr.v:=by
 rw[List.map_append,List.map_append,List.set_append_right _ _ (by simp)];simp
theorem JnA.last(h:JnA w V D g jv (T0 ++ [j]) oj):∃ jb c,oj=some jb/\jv=.slice (some ⟨jb,0,none⟩) (T0.length + 1) c/\Rw w 273 1 jb (T0.length + 1) c ((T0 ++ [j]).map Jr.v):=by
 rcases h.row with⟨_,_,e⟩ | ⟨b,c,e1,e2,hR⟩
 ·exact absurd e (by simp)
 ·exact⟨b,c,e1,by rw[e2]; simp,by simpa using hR⟩
theorem xnote{K F:Nat->Prop}{m:Nat}{n N:Nat}{U':List Und}(h:SX w K D F V g m Q jv (T0 ++ [j]) oj n N)(hC:iF w V D g U' cs')(hb:Lies w bv cs'){N':Nat}(hN1:N<=N')(hN2:Kv.tot (T0 ++ [j]) + U'.length + Q.flatten.length<=N')(hN3:N'<=1000000000) :
  Calls Tryz.prog 144 #[.pointer (some ⟨g,0,none⟩),bv] w fun e w'=>e=.returned (.tuple #[])/\∃ K' j',j'.U=j.U ++ U'/\SX w' K' D F V g m Q jv (T0 ++ [j']) oj n N'/\(∀ b,K' b->K b\/w.heap.size<=b)/\Chg K w w':=by
 have hlen:j.U.length + U'.length<=1000000000:=by rw[qx] at hN2; omega
 obtain⟨f,c,rfl,rfl,z⟩:=h.jn.last;obtain⟨v',G,A,W,⟨r,s,t,rfl⟩,H,I,u⟩:=yV (h.jn.each j (by simp)) hC hb hlen
 have l:j∈T0 ++ [j]:=by simp
 have ud:=oh h.blk;have c1:=h.blk.cell (i:=1) rfl;have x:=z.cell (i:=T0.length) (v:=j.v) (by simp)
 have B:¬ j.o=some f:=fun e=>by
  obtain⟨cs,k⟩:=(h.jn.each j l).kind e;obtain⟨cs',J⟩:=z.kind;exact absurd (k.eq J).2 (by decide)
 have d:=z.chg u B;have p:=d.cell (i:=T0.length) (v:=j.v) (by simp);have E:=d.free T0.length;have hle:=z.le
 have L:∃ a1 X c1,j.v=.slice a1 X c1:=by
  obtain⟨cs,_,⟨_,e,_⟩ | ⟨b,c,_,e,_⟩⟩:=h.jn.each j l
  ·exact⟨_,_,_,e⟩
  ·exact⟨_,_,_,e⟩
 obtain⟨a1,X,c2,M⟩:=L;rw[M] at x p W
 have O:∃ a2 Y Z,bv=.slice a2 Y Z:=by
  rcases hb with⟨e,_⟩ | ⟨a,c,e,_⟩
  ·exact⟨_,_,_,e⟩
  ·exact⟨_,_,_,e⟩
 obtain⟨a2,Y,Z,P⟩:=O;subst P
 have hg0:(0:Int) < (T0.length:Int) + 1:=by omega
 have hg1:(T0.length:Int)<=16:=by have:=h.len; simp at this; omega
 have R:Hid (∃ K' j',j'.U=j.U ++ U'/\SX (A.setCell ⟨f,T0.length,none⟩ (.slice r s t)) K' D F V g m Q (.slice (some ⟨f,0,none⟩) (T0.length + 1) c) (T0 ++ [j']) (some f) n N'/\(∀ b,K' b->K b\/w.heap.size<=b)/\Chg K w (A.setCell ⟨f,T0.length,none⟩ (.slice r s t))):=by
  have C:Chg (fun b=>j.o=some b\/b=f) w (A.setCell ⟨f,T0.length,none⟩ (.slice r s t)):=(u.mono (fun b _ e=>.inl e)).cell (.inl (.inr rfl)) _;obtain⟨cs,kj⟩:=d.kind
  have S:JrA (A.setCell ⟨f,T0.length,none⟩ (.slice r s t)) V D g ⟨j.U ++ U',.slice r s t,G⟩:=H.stay (ll kj (by decide) (by decide) (by decide) ((Chg.refl (· = f) A).cell (.inl rfl) _)) (fun b e=>by
   have T:b≠f:=fun e2=>by
    subst e2;obtain⟨cs',J⟩:=H.kind e;exact absurd (J.eq kj).2 (by decide)
   exact Below.heap_setCell _ _ _ _ T)
  have hS:=h.inner (j':=⟨j.U ++ U',.slice r s t,G⟩) S (fun b e=>(I b e).imp id (fun e=>by omega)) (N':=N') hN1 (by rw[qx] at hN2 ⊢; simp only[List.length_append]; omega) ⟨c,by simp,by
   have:=d.set T0.length (by simp) (.slice r s t);rw[wX T0 j ⟨j.U ++ U',.slice r s t,G⟩] at this;simpa using this⟩ C
  refine⟨_,_,rfl,hS,fun b hb => ?_,C.mono (fun b _ e => ?_)⟩
  ·rcases hb with hb | hb
   ·exact .inl hb.1
   ·rcases I b hb with e | e
    ·exact .inl (h.own.bck j l b e)
    ·exact .inr (by omega)
  ·rcases e with e | e
   ·exact h.own.bck j l b e
   ·subst e; exact h.own.jrn _ rfl
 clear h hC hb z d H I u B hlen;generalize T0.length=q at *;go_enter Tryz.func144,Tryz.ntmps144;go_wp2_with first
  | (go_at_call 143; go_must (refine ud.mono ?_); rintro e y ⟨rfl,hy⟩; replace hy:=hy.symm; subst hy)
  | (at_builtin; refine Lib.wpList_append_run _ rfl _ _ _ _ rfl _ _ rfl rfl _ _ W ?_)
 go_end0;exact⟨rfl,R.out⟩
end
end Kv
end
section
namespace Kv
open Go.RowKit Go.Lib Pg
section
variable {w:World}{K D F V:Nat->Prop}{g m n N:Nat}{Q:List (List KV)}{jv kv:Value}{T T0:List Jr}{oj:Option Nat}{k:List Int}
attribute [local go_sem] Oper.semAt_some
theorem xa(h:SX w K D F V g m Q jv T oj n N)(r:By w kv k)(q:k.length<=1000000000)(s:N<=100000000) :
  Calls Tryz.prog 145 #[.pointer (some ⟨g,0,none⟩),kv] w fun e w'=>∃ (c:Value) (S:Nat->Prop),e=.returned c/\(∃ f cap,c=.func (.func f) #[] cap)/\SX w' (fun b=>K b\/S b) (fun b=>D b\/w.heap.size<=b) F (fun b=>V b\/S b) g m Q jv T oj n N/\np w' (fun b=>V b\/S b) (fun b=>D b\/w.heap.size<=b) g (k,look Q.flatten k) c/\(∀ b,S b->w.heap.size<=b)/\Below w.heap.size w w':=by
 refine(p5 (there:=(look Q.flatten k).isSome) (L:=(look Q.flatten k).getD []) h.blk r q (fun w' d i j=>(jG (h.keep i) j s).mono fun e l h=>h)).mono ?_
 rintro e w' ⟨s1,s2,s3,v1,v3,rfl,g1,g2,g3,b1,b2,b3,o,a,B⟩;have p:=(h.keep B).vars (S:=fun b=>b=s1\/b=s2\/b=s3) (fun b hb hF=>by have:=h.map.lt hF; rcases hb with rfl | rfl | rfl<;>omega) (fun b hb=>by
  rcases hb with rfl | rfl | rfl
  ·exact⟨_,_,b1,.inl rfl⟩
  ·exact⟨_,_,b2,.inr rfl⟩
  ·exact⟨_,_,b3,.inr rfl⟩) (D':=fun b=>D b\/w.heap.size<=b) (fun _ _ h=>.inl h)
 refine⟨_,fun b=>b=s1\/b=s2\/b=s3,rfl,⟨_,_,rfl⟩,p,⟨⟨q,fun x hx => ?_⟩,s1,s2,v1,.inr (.inl rfl),.inr (.inr (.inl rfl)),b1,b2,o.mono (fun _ _ h=>.inr h),?_⟩,(fun b hb=>by rcases hb with rfl | rfl | rfl<;>assumption),B⟩
 ·exact(h.map.small _ (jN hx)).2
 ·cases hl:look Q.flatten k with
  | none=>exact .inl ⟨rfl,by simp⟩
  | some x=>exact .inr ⟨s3,v3,x,.inr (.inr (.inr rfl)),b3,by rw[hl] at a; exact a.mono (fun _ _ h=>.inr h),rfl,by simp⟩
theorem mE(h:SX w K D F V g m Q jv [] oj n N) :
  Calls Tryz.prog 96 #[.pointer (some ⟨g,0,none⟩),kv] w fun e w'=>e=.returned (.tuple #[])/\w'=w:=by
 have a:=zD h;clear h;go_enter Tryz.func96,Tryz.ntmps96;go_wp2_with (go_at_call 143; go_must (refine a.mono ?_); rintro e y ⟨rfl,hy⟩; replace hy:=hy.symm; subst hy);go_end0;exact⟨rfl,rfl⟩
theorem nV{j:Jr}(h:SX w K D F V g m Q jv (T0 ++ [j]) oj n N)(W:By w kv k)(X:k.length<=1000000000)(Y:N<=100000000) :
  Calls Tryz.prog 96 #[.pointer (some ⟨g,0,none⟩),kv] w fun e w'=>e=.returned (.tuple #[])/\∃ K' V' j',j'.U=j.U ++ [(k,look Q.flatten k)]/\SX w' K' (fun b=>D b\/w.heap.size<=b) F V' g m Q jv (T0 ++ [j']) oj n (N + 1)/\(∀ b,K' b->K b\/w.heap.size<=b)/\Chg K w w':=by
 have r:=zD h;have s:=xa h W X Y;obtain⟨I,c,rfl,-⟩:=id W.ex;generalize k.length=J at *
 have v:(0:Int) < ((T0 ++ [j]).length:Int):=by simp
 have L:Hid (∀ b,K b->b < w.heap.size):=fun b hb=>by obtain⟨cs,t,k,_⟩:=h.own.kind b hb; exact k.lt
 clear h W;generalize (T0 ++ [j]).length=M at *;go_enter Tryz.func96,Tryz.ntmps96;go_wp2_with first
  | (go_at_call 143; go_must (refine r.mono ?_); rintro e y ⟨rfl,hy⟩; replace hy:=hy.symm; subst hy)
  | (go_at_call 145; go_must (refine s.mono ?_); rintro e a ⟨O,S,rfl,⟨f,cap,rfl⟩,l,z,hS,A⟩; have al:=P a (.cells #[.func (.func f) #[] cap] 1); have bl:=R a [.func (.func f) #[] cap] 1; have B:iF (a.alloc (.cells #[.func (.func f) #[] cap] 1)) (fun b=>V b\/S b) (fun b=>D b\/w.heap.size<=b) g [(k,look Q.flatten k)] [.func (.func f) #[] cap]:=⟨rfl,(fun i u c hu hc=>by (have hi:i=0:=(by have:=(List.getElem?_eq_some_iff.1 hu).1; simp at this; omega)); subst hi; simp at hu hc; subst hu; subst hc; exact z.stay ⟨fun b _ _ _ k _=>al.block b k.lt,fun b v _ _=>al.block b v⟩)⟩; have C:E (a.alloc (.cells #[.func (.func f) #[] cap] 1)) (.slice (some ⟨a.heap.size,0,none⟩) 1 1) [.func (.func f) #[] cap]:=.inr ⟨_,1,rfl,(fun i x hx=>by (have hi:i=0:=(by have:=(List.getElem?_eq_some_iff.1 hx).1; simp at this; omega)); subst hi; simp at hx; subst hx; exact bl.cell (i:=0) rfl)⟩; have un:=o (N':=N + 1) (l.keep al) B C (by omega) (by have:=l.tot; simp only[List.length_cons,List.length_nil]; omega) (by omega); clear l z B C bl r s)
  | (go_at_call 144; go_must (refine un.mono ?_); rintro e T ⟨rfl,K',j',p,G,q,hC⟩; clear un)
 go_end0;refine⟨rfl,K',_,j',p,G,fun b hb => ?_,?_⟩
 ·rcases q b hb with(d | d) | d
  ·exact .inl d
  ·exact .inr (hS b d)
  ·exact .inr (by have:=A.size; have:=al.size; omega)
 ·have H:=aj A al;exact(Chg.of (F:=K) H).trans hC (fun b hb e=>e.elim id (fun e=>by have:=hS b e; omega))
def BK(w:World)(K:Nat->Prop)(kv:Value)(k:List Int):Prop:=∀ w',Chg K w w'->By w' kv k
theorem BK.by(h:BK w K kv k):By w kv k:=h w (Chg.refl _ _)
theorem BK.shape(h:BK w K kv k):∃ ao c,kv=.slice ao k.length c:=by
 obtain⟨ao,c,e,_⟩:=h.by.ex
 exact⟨ao,c,e⟩
theorem ff{w1 w2:World}(h:Chg K w w1)(h':Chg K w1 w2):Chg K w w2:=h.trans h' (fun _ _ h=>h)
end
end Kv
end
section
namespace Kv
open Go.RowKit Go.Lib Pg
section
variable {T0 T:List Jr}{j:Jr}{W:List aD}{E E':aD}{w w':World}{K D F V:Nat->Prop}{g m n N:Nat}{Q:List (List KV)}{jv kv vv:Value}{oj:Option Nat}{k v:List Int}
attribute [local go_sem] Oper.semAt_some
theorem nX{j':Jr}{u:Und}(h:j4 ((T0 ++ [j]).reverse.map Jr.U) W E)(a:j'.U=j.U ++ [u])(hu:zn E' u=E):j4 ((T0 ++ [j']).reverse.map Jr.U) W E':=by
 rw[List.reverse_append] at h ⊢;simp only[List.reverse_cons,List.reverse_nil,List.nil_append,List.cons_append,List.map_cons] at h ⊢
 cases W with
 | nil=>exact h.elim
 | cons e W=>exact⟨by rw[a,sM,hu]; exact h.1,h.2⟩
theorem qR(h:j4 [] W E):j4 [] W E':=by
 cases W with
 | nil=>trivial
 | cons e W=>exact h.elim
def iZ(k v:List Int):Int:=if k.length=0\/64 < k.length then 60 else if 4096 < v.length then 61 else 0
def Ends(w:World)(K D:Nat->Prop)(g:Nat)(E:aD)(W:List aD)(n N:Nat)(r:Value)(e:Ending)(w':World):Prop:=e=.returned r/\∃ K',SA w' K' (fun b=>D b\/w.heap.size<=b) g E W n N/\(∀ b,K' b->K b\/w.heap.size<=b)/\Chg K w w'
theorem SX.kg(h:SX w K D F V g m Q jv T oj n N)(hc:Chg (· = g) w w'):Chg K w w':=hc.mono (fun b _ e=>by have e':b=g:=e; subst e'; exact h.own.top)
theorem wU(h:SA w K D g E W n N)(B:BK w K kv k)(C:BK w K vv v)(hn:n<=4000000000000000000)(G:k.length=0) :
  Calls Tryz.prog 64 #[.pointer (some ⟨g,0,none⟩),kv,vv] w (Ends w K D g E W (n + 1) (N + 2) (.int .i64 60)):=by
 obtain⟨F,V,m,Q,s,T,t,a,f,i⟩:=h.open;obtain⟨x,c,rfl⟩:=B.shape;obtain⟨y,d,rfl⟩:=C.shape;have u:=fQ a hn;have j:=aB a;have l:=aB f;have o:=aB i;generalize k.length=p at *;generalize v.length=z at *
 have g0:(p:Int)=0:=by omega
 clear a f i h B C;go_enter Tryz.func64,Tryz.ntmps64;go_wp2_with (go_at_call 95; go_must (refine u.mono ?_); rintro e A ⟨rfl,q,r⟩);go_ret;exact⟨rfl,K,(q.shut l.out o.out).more (by omega) |>.mono (fun _ _ h=>.inl h),fun b h=>.inl h,j.out.kg r⟩
theorem vG(h:SA w K D g E W n N)(B:BK w K kv k)(C:BK w K vv v)(hn:n<=4000000000000000000)(G:¬ k.length=0)(H:64 < k.length) :
  Calls Tryz.prog 64 #[.pointer (some ⟨g,0,none⟩),kv,vv] w (Ends w K D g E W (n + 1) (N + 2) (.int .i64 60)):=by
 obtain⟨F,V,m,Q,s,T,t,a,f,i⟩:=h.open;obtain⟨x,c,rfl⟩:=B.shape;obtain⟨y,d,rfl⟩:=C.shape;have u:=fQ a hn;have l:=aB a;have o:=aB f;have p:=aB i;generalize k.length=j at *;generalize v.length=z at *
 have g0:((j:Int)=0)=False:=eq_false (by omega)
 have g1:(64:Int) < j:=by omega
 clear a f i h B C;go_enter Tryz.func64,Tryz.ntmps64;go_wp2_with (go_at_call 95; go_must (refine u.mono ?_); rintro e A ⟨rfl,q,r⟩);go_ret;exact⟨rfl,K,(q.shut o.out p.out).more (by omega) |>.mono (fun _ _ h=>.inl h),fun b h=>.inl h,l.out.kg r⟩
theorem yk(h:SA w K D g E W n N)(B:BK w K kv k)(C:BK w K vv v)(hn:n<=4000000000000000000)(G:¬ k.length=0)(I:¬ 64 < k.length)(H:4096 < v.length) :
  Calls Tryz.prog 64 #[.pointer (some ⟨g,0,none⟩),kv,vv] w (Ends w K D g E W (n + 1) (N + 2) (.int .i64 61)):=by
 obtain⟨F,V,m,Q,t,T,x,a,f,i⟩:=h.open;obtain⟨y,c,rfl⟩:=B.shape;obtain⟨z,d,rfl⟩:=C.shape;have u:=fQ a hn;have l:=aB a;have o:=aB f;have p:=aB i;generalize k.length=j at *;generalize v.length=q at *
 have g0:((j:Int)=0)=False:=eq_false (by omega)
 have g1:((64:Int) < j)=False:=eq_false (by omega)
 have g2:(4096:Int) < q:=by omega
 clear a f i h B C;go_enter Tryz.func64,Tryz.ntmps64;go_wp2_with (go_at_call 95; go_must (refine u.mono ?_); rintro e A ⟨rfl,r,s⟩);go_ret;exact⟨rfl,K,(r.shut o.out p.out).more (by omega) |>.mono (fun _ _ h=>.inl h),fun b h=>.inl h,l.out.kg s⟩
theorem Ai(O:SX w K D F V g m Q jv [] oj n N)(T:j4 ([].reverse.map Jr.U) W Q.flatten)(P:BK w K kv k)(R:BK w K vv v)(hn:n<=4000000000000000000)(S:N + 2<=100000000)(Y:¬ k.length=0)(M:¬ 64 < k.length)(X:¬ 4096 < v.length) :
  Calls Tryz.prog 64 #[.pointer (some ⟨g,0,none⟩),kv,vv] w (Ends w K D g (put Q.flatten k v) W (n + 1) (N + 2) (.int .i64 0)):=by
 obtain⟨G,c,rfl⟩:=P.shape;obtain⟨H,d,rfl⟩:=R.shape;have u:=fQ O hn;have j:=aB O;have z:=aB T;have r:=aB P;have s:=aB R;have l:=aB (show k.length<=64 by omega);have o:=aB (show v.length<=4096 by omega);replace S:N<=99999998:=by omega
 have A:=S;replace S:N<=100000000:=by omega
 have g0:((k.length:Int)=0)=False:=eq_false (by omega)
 have g1:((64:Int) < k.length)=False:=eq_false (by omega)
 have g2:¬ ((4096:Int) < v.length):=by omega
 clear O T P R;obtain⟨t,p⟩:∃ t,Hid (k.length=t):=⟨_,rfl⟩
 obtain⟨x,q⟩:∃ x,Hid (v.length=x):=⟨_,rfl⟩
 rw[p.out] at g0 g1 r Y M ⊢;rw[q.out] at g2 s X ⊢;go_enter Tryz.func64,Tryz.ntmps64;go_wp2_with first
  | (go_at_call 95; go_must (refine u.mono ?_); rintro e I ⟨rfl,a,f⟩)
  | (go_at_call 96; go_must (refine(mE a).mono ?_); rintro e y ⟨rfl,hy⟩; replace hy:=hy.symm; subst hy; have c0:=a.blk.cell (i:=0) rfl; have us:=mset a.map (r.out _ (j.out.kg f)) (s.out _ (j.out.kg f)) (by have:=l.out; omega) (by have:=o.out; omega) (by omega))
  | (go_at_call 97; go_must (refine us.mono ?_); rintro e J ⟨rfl,L,B,hF,hC⟩)
 go_ret;have C:=a.mapped (N':=N + 1) (by have:=a.tot; have:=uX a.map.ord.flat k v; rw[iw a.map.ord]; omega) B hF (fun _ h=>.inl h) hC;refine⟨rfl,_,((C.shut (E:=put Q.flatten k v) (W:=W) (iw a.map.ord k v) (qR z.out)).more (by omega)).mono (fun b _ hb => ?_),fun b hb => ?_,?_⟩
 ·rcases hb with hb | hb
  ·exact .inl hb
  ·exact .inr (by have:=f.size; omega)
 ·rcases hb with⟨hb,_⟩ | hb
  ·exact .inl hb
  ·rcases hF b hb with M | M
   ·exact .inl (a.own.map b M)
   ·exact .inr (by have:=f.size; omega)
 ·exact ff (j.out.kg f) (hC.mono (fun b _ h=>a.own.map b h))
theorem yW(hX:SX w K D F V g m Q jv (T0 ++ [j]) oj n N)(hB:j4 ((T0 ++ [j]).reverse.map Jr.U) W Q.flatten)(hk:BK w K kv k)(hv:BK w K vv v)(hn:n<=4000000000000000000)(hN:N + 2<=100000000)(h0:¬ k.length=0)(h1:¬ 64 < k.length)(h2:¬ 4096 < v.length) :
  Calls Tryz.prog 64 #[.pointer (some ⟨g,0,none⟩),kv,vv] w (Ends w K D g (put Q.flatten k v) W (n + 1) (N + 2) (.int .i64 0)):=by
 obtain⟨M,c,rfl⟩:=hk.shape;obtain⟨O,d,rfl⟩:=hv.shape;have u:=fQ hX hn;have q:=aB hX;have C:=aB hB;have r:=aB hk;have z:=aB hv;have o:=aB (show k.length<=64 by omega);have s:=aB (show v.length<=4096 by omega);replace hN:N<=99999998:=by omega
 have G:=hN;replace hN:N<=100000000:=by omega
 have g0:((k.length:Int)=0)=False:=eq_false (by omega)
 have g1:((64:Int) < k.length)=False:=eq_false (by omega)
 have g2:¬ ((4096:Int) < v.length):=by omega
 clear hX hB hk hv;obtain⟨A,t⟩:∃ A,Hid (k.length=A):=⟨_,rfl⟩
 obtain⟨B,x⟩:∃ B,Hid (v.length=B):=⟨_,rfl⟩
 rw[t.out] at g0 g1 r h0 h1 ⊢;rw[x.out] at g2 z h2 ⊢;go_enter Tryz.func64,Tryz.ntmps64;go_wp2_with first
  | (go_at_call 95; go_must (refine u.mono ?_); rintro e P ⟨rfl,H,l⟩)
  | (go_at_call 96; go_must (refine(nV H (r.out _ (q.out.kg l)) (by have:=o.out; omega) hN).mono ?_); rintro e R ⟨rfl,S,T,X,y,a,f,I⟩; have p:=ff (q.out.kg l) I; have c0:=a.blk.cell (i:=0) rfl; have us:=mset a.map (r.out _ p) (z.out _ p) (by have:=o.out; omega) (by have:=s.out; omega) (by omega))
  | (go_at_call 97; go_must (refine us.mono ?_); rintro e Y ⟨rfl,Z,J,hF,hC⟩)
 go_ret;have L:=a.mapped (N':=N + 1 + 1) (by have:=a.tot; have:=uX a.map.ord.flat k v; rw[iw a.map.ord]; omega) J hF (fun _ h=>.inl h) hC;refine⟨rfl,_,((L.shut (E:=put Q.flatten k v) (W:=W) (iw a.map.ord k v) (nX C.out y (xQ q.out.map.ord.flat k v))).more (by omega)).mono (fun b _ hb => ?_),fun b hb => ?_,?_⟩
 ·rcases hb with(hb | hb) | hb
  ·exact .inl hb
  ·exact .inr (by have:=l.size; omega)
  ·exact .inr (by have:=p.size; omega)
 ·rcases hb with⟨hb,_⟩ | hb
  ·exact(f b hb).imp id (fun h=>by have:=l.size; omega)
  ·rcases hF b hb with h1 | h1
   ·exact(f b (a.own.map b h1)).imp id (fun h=>by have:=l.size; omega)
   ·exact .inr (by have:=p.size; omega)
 ·exact p.trans hC (fun b hb h=>(f b (a.own.map b h)).elim id (fun h=>by have:=l.size; omega))
theorem sset(h:SA w K D g E W n N)(p:BK w K kv k)(q:BK w K vv v)(hn:n<=4000000000000000000)(r:N + 2<=100000000) :
  Calls Tryz.prog 64 #[.pointer (some ⟨g,0,none⟩),kv,vv] w (Ends w K D g (if iZ k v=0 then put E k v else E) W (n + 1) (N + 2) (.int .i64 (iZ k v))):=by
 by_cases a:k.length=0
 ·have e:iZ k v=60:=by unfold iZ; rw[if_pos (.inl a)]
  rw[e,if_neg (by decide)]; exact wU h p q hn a
 ·by_cases b:64 < k.length
  ·have e:iZ k v=60:=by unfold iZ; rw[if_pos (.inr b)]
   rw[e,if_neg (by decide)]; exact vG h p q hn a b
  ·by_cases c:4096 < v.length
   ·have e:iZ k v=61:=by unfold iZ; rw[if_neg (by omega),if_pos c]
    rw[e,if_neg (by decide)]; exact yk h p q hn a b c
   ·have e:iZ k v=0:=by unfold iZ; rw[if_neg (by omega),if_neg c]
    rw[e,if_pos rfl];obtain⟨F,V,m,Q,i,T,l,d,rfl,f⟩:=h.open;rcases List.eq_nil_or_concat T with rfl | ⟨o,j,rfl⟩
    ·exact Ai d f p q hn r a b c
    ·rw[List.concat_eq_append] at d f;exact yW d f p q hn r a b c
end
end Kv
end
end Go.Proofs.YthfepflplbahkaaGreatDoor
