import Derived.Test.YtpoifdokmjhclaaGreatJyg
set_option maxRecDepth 100000
set_option maxHeartbeats 8000000
namespace Go.Proofs.YtpoifdokmjhclaaGreat
section
namespace Kv
open Pg
section
variable {k x v:List Int}{Q:List (List KV)}
abbrev aD:=List KV
def ox(E:aD):Prop:=E.Pairwise λx y=>Lt x.1 y.1
def look(E:aD)(k:List Int):Option (List Int):=(E.find? (λx=>decide (x.1=k))).map Prod.snd
def put(E:aD)(k v:List Int):aD:=E.filter (λx=>decide (Lt x.1 k)) ++ (k,v) :: E.filter (λx=>decide (Lt k x.1))
def rem(E:aD)(k:List Int):aD:=E.filter (λx=>decide (¬ x.1=k))
theorem ed{α:Type}{p:α->Bool}{l:List α}(h:∀ x∈l,p x=true):l.filter p=l:=List.filter_eq_self.2 h
theorem iz{α:Type}{p:α->Bool}{l:List α}(h:∀ x∈l,p x=false):l.filter p=[]:=List.filter_eq_nil_iff.2 (λx hx=>by rw[h x hx];simp)
structure Cut(k:List Int)(X Y:aD):Prop where
 lo:∀ x∈X,Lt x.1 k
 hi:∀ y∈Y,Lt k y.1
theorem Cut.nx{X Y:aD}(h:Cut k X Y):∀ x∈X,¬ x.1=k:=λx hx e=>by have:=h.lo x hx;rw[e] at this;exact lt_irrefl _ this
theorem Cut.ny{X Y:aD}(h:Cut k X Y):∀ x∈Y,¬ x.1=k:=λx hx e=>by have:=h.hi x hx;rw[e] at this;exact lt_irrefl _ this
theorem DR{X:aD}(h:∀ x∈X,¬ x.1=k):look X k=none:=by
 unfold look;rw[List.find?_eq_none.2 (λx hx=>by simp[h x hx])];rfl
theorem sS{X Y:aD}(h:∀ x∈X,¬ x.1=k):look (X ++ Y) k=look Y k:=by
 unfold look;rw[List.find?_append,List.find?_eq_none.2 (λx hx=>by simp[h x hx])];simp
theorem Cut.Bd{X Y:aD}(h:Cut k X Y):look (X ++ Y) k=none:=by rw[sS h.nx,DR h.ny]
theorem Cut.vO{X Y:aD}(h:Cut k X Y):look (X ++ (k,x) :: Y) k=some x:=by
 rw[sS h.nx];simp[look]
theorem Cut.FU{X Y:aD}(h:Cut k X Y):put (X ++ Y) k v=X ++ (k,v) :: Y:=by
 unfold put;rw[List.filter_append,List.filter_append,ed (l:=X) (λx hx=>decide_eq_true (h.lo x hx)),iz (l:=Y) (λx hx=>decide_eq_false (h.hi x hx).not),iz (l:=X) (λx hx=>decide_eq_false (h.lo x hx).not),ed (l:=Y) (λx hx=>decide_eq_true (h.hi x hx))];simp
theorem Cut.EN{X Y:aD}(h:Cut k X Y):put (X ++ (k,x) :: Y) k v=X ++ (k,v) :: Y:=by
 unfold put;rw[List.filter_append,List.filter_append,ed (l:=X) (λx hx=>decide_eq_true (h.lo x hx)),iz (l:=X) (λx hx=>decide_eq_false (h.lo x hx).not),List.filter_cons,List.filter_cons,iz (l:=Y) (λx hx=>decide_eq_false (h.hi x hx).not),ed (l:=Y) (λx hx=>decide_eq_true (h.hi x hx)),decide_eq_false (lt_irrefl k)];simp
theorem Cut.DT{X Y:aD}(h:Cut k X Y):rem (X ++ Y) k=X ++ Y:=by
 unfold rem;rw[List.filter_append,ed (l:=X) (λx hx=>decide_eq_true (h.nx x hx)),ed (l:=Y) (λx hx=>decide_eq_true (h.ny x hx))]
theorem Cut.rem1{X Y:aD}(h:Cut k X Y):rem (X ++ (k,x) :: Y) k=X ++ Y:=by
 unfold rem;rw[List.filter_append,ed (l:=X) (λx hx=>decide_eq_true (h.nx x hx)),List.filter_cons,ed (l:=Y) (λx hx=>decide_eq_true (h.ny x hx))];simp
theorem qR{X Y:aD}(h:ox (X ++ (k,x) :: Y)):Cut k X Y:=by
 unfold ox at h;rw[List.pairwise_append,List.pairwise_cons] at h;exact⟨λa ha=>h.2.2 a ha (k,x) List.mem_cons_self,λb hb=>h.2.1.1 b hb⟩
theorem ox.cut{E:aD}(h:ox E)(k:List Int):∃ X Y,Cut k X Y/\((E=X ++ Y/\look E k=none)\/∃ x,E=X ++ (k,x) :: Y/\look E k=some x):=by
 induction E with
 | nil=>exact⟨[],[],⟨λ_ h=>by simp at h,λ_ h=>by simp at h⟩,.inl ⟨rfl,rfl⟩⟩
 | cons a E ih =>
  have b:=h;unfold ox at b;rw[List.pairwise_cons] at b;rcases qy a.1 k with f | he | d
  ·obtain⟨X,Y,c,r⟩:=ih b.2
   have hc:Cut k (a :: X) Y:=⟨λx hx=>by
    rcases List.mem_cons.1 hx with rfl | hx
    ·exact f
    exact c.lo x hx,c.hi⟩
   refine⟨a :: X,Y,hc,?_⟩;rcases r with⟨e,_⟩ | ⟨x,e,_⟩
   ·subst e;exact .inl ⟨rfl,hc.Bd⟩
   subst e;exact .inr ⟨x,rfl,hc.vO⟩
  ·have hc:Cut k [] E:=⟨λ_ h=>by simp at h,λy hy=>by rw[<- he];exact b.1 y hy⟩
   obtain⟨ak,g⟩:=a;simp only at he;subst he;exact⟨[],E,hc,.inr ⟨g,rfl,hc.vO⟩⟩
  have hc:Cut k [] (a :: E):=⟨λ_ h=>by simp at h,λy hy=>by
   rcases List.mem_cons.1 hy with rfl | hy
   ·exact d
   exact d.trans (b.1 y hy)⟩
  exact⟨[],a :: E,hc,.inl ⟨rfl,hc.Bd⟩⟩
abbrev Und:=List Int × Option (List Int)
def oK(E:aD)(u:Und):aD:=match u.2 with
 | none=>rem E u.1
 | some v=>put E u.1 v
theorem CO{E:aD}(h:ox E)(k v:List Int):oK (put E k v) (k,look E k)=E:=by
 obtain⟨X,Y,c,⟨rfl,e⟩ | ⟨x,rfl,e⟩⟩:=h.cut k
 ·rw[e,c.FU];exact c.rem1
 rw[e,c.EN];exact c.EN
theorem Bb{E:aD}(h:ox E)(k:List Int):oK (rem E k) (k,look E k)=E:=by
 obtain⟨X,Y,c,⟨rfl,e⟩ | ⟨x,rfl,e⟩⟩:=h.cut k
 ·rw[e,c.DT];exact c.DT
 rw[e,c.rem1];exact c.FU
def iX(U:List Und)(E:aD):aD:=U.foldr (λu E=>oK E u) E
theorem yN(U V:List Und)(E:aD):iX (U ++ V) E=iX U (iX V E):=by simp[iX]
theorem vj(U:List Und)(u:Und)(E:aD):iX (U ++ [u]) E=iX U (oK E u):=by simp[iX]
def gy:List (List Und)->List aD->aD->Prop
 | [],[],_=>True
 | U :: J,e :: W,E=>iX U E=e/\gy J W e
 | _,_,_=>False
theorem gy.len:∀ {J:List (List Und)} {W:List aD} {E:aD},gy J W E->J.length=W.length
 | [],[],_,_=>rfl
 | _ :: _,_ :: _,_,h=>by simp[gy.len h.2]
 | [],_ :: _,_,h=>h.elim
 | _ :: _,[],_,h=>h.elim
theorem eC(h:kP Q)(k v:List Int):(oF Q k v).flatten=put Q.flatten k v:=by
 cases hh:gU Q k
 ·obtain⟨X,Y,e1,e2,b,a⟩:=h.iP v hh;rw[e1,e2,Cut.FU ⟨b,a⟩]
 obtain⟨X,x,Y,e1,e2⟩:=h.wK v hh;have c:=qR (by have:=h.flat;rw[e1] at this;exact this);rw[e1,e2,c.EN]
theorem j0(h:kP Q)(k:List Int):gU Q k=(look Q.flatten k).isSome:=by
 cases hh:gU Q k
 ·obtain⟨X,Y,e1,_,b,a⟩:=h.iP [] hh;rw[e1,Cut.Bd ⟨b,a⟩];rfl
 obtain⟨X,x,Y,e1,_⟩:=h.wK [] hh;have c:=qR (by have:=h.flat;rw[e1] at this;exact this);rw[e1,c.vO];rfl
theorem fy(h:kP Q)(k:List Int):(qu Q k).flatten=rem Q.flatten k:=by
 cases hh:gU Q k
 ·rw[xS hh];obtain⟨X,Y,e1,_,b,a⟩:=h.iP [] hh;rw[e1,Cut.DT ⟨b,a⟩]
 obtain⟨X,x,Y,e1,e2⟩:=h.FR hh;have c:=qR (by have:=h.flat;rw[e1] at this;exact this);rw[e1,e2,c.rem1]
theorem Fx(a:gU Q k=true):(k,yj Q k)∈Q.flatten:=by
 unfold gU thr at a;simp only[Bool.and_eq_true,Bool.not_eq_true',decide_eq_true_eq] at a;obtain⟨_,b⟩:=a;unfold yj;rw[List.getElem?_map] at b;obtain⟨x,hx,hk⟩:=Option.map_eq_some_iff.1 b;rw[hx];simp only[Option.map_some,Option.getD_some];have hm:=List.mem_of_getElem? hx
 have c:x=(k,x.2):=by rw[<- hk]
 rw[<- c];rw[List.getD_eq_getElem?_getD] at hm
 cases hq:Q[apl Q k]? with
 | none=>rw[hq] at hm;simp at hm
 | some p=>rw[hq] at hm;exact List.mem_flatten.2 ⟨p,List.mem_of_getElem? hq,hm⟩
theorem Dy(h:kP Q)(k:List Int):(if gU Q k then yj Q k else [])=(look Q.flatten k).getD []:=by
 cases hh:gU Q k
 ·have:=j0 h k;rw[hh] at this
  cases hl:look Q.flatten k with
  | none=>rfl
  | some x=>rw[hl] at this;cases this
 have hm:=Fx hh;obtain⟨X,Y,e⟩:=List.append_of_mem hm;have c:=qR (by have:=h.flat;rw[e] at this;exact this);rw[e,c.vO];rfl
theorem jO{E:aD}(h:look E k=some x):(k,x)∈E:=by
 unfold look at h;obtain⟨a,c,rfl⟩:=Option.map_eq_some_iff.1 h;have d:=List.mem_of_find?_eq_some c;have b:=List.find?_some c;simp only[decide_eq_true_eq] at b;rw[<- b];exact d
theorem ku{E:aD}(h:ox E)(k v:List Int):(put E k v).length<=E.length+1:=by
 obtain⟨X,Y,c,⟨rfl,_⟩ | ⟨x,rfl,_⟩⟩:=h.cut k
 ·rw[c.FU];simp;omega
 rw[c.EN];simp
theorem mu{E:aD}(k:List Int):(rem E k).length<=E.length:=List.length_filter_le _ _
theorem CF{E:aD}(h:ox E)(u:Und):(oK E u).length<=E.length+1:=by
 unfold oK;split
 ·have:=mu (E:=E) u.1;omega
 exact ku h _ _
end
end Kv
end
section
namespace Pg
open Go.RowKit Go.Lib
section
variable {L:List Pg}{N g b:Nat}{w w':World}{F D:Nat->Prop}{Q:List (List KV)}{P:List (List En)}{p:En->Prop}{kv:Value}{k:List Int}
structure Mp(w:World)(F D:Nat->Prop)(g:Nat)(Q:List (List KV))(N:Nat):Prop where
 ex:∃ L,abs (ens L)=Q/\bR w F D g L/\Ord (ens L)/\Shq (ens L)/\(ens L).flatten.length<=N/\∀ es∈ens L,∀ e∈es,e.kl.length<=1000000000/\e.vl.length<=1000000000
theorem wc:∀ {P:List (List En)},(∀ es∈P,1<=es.length)->P.length<=P.flatten.length
 | [],_=>Nat.le_refl _
 | a :: P,h=>by
  have h1:=h a List.mem_cons_self;have b:=wc (P:=P) λes he=>h es (List.mem_cons_of_mem _ he)
  simp only[List.flatten_cons,List.length_append,List.length_cons];omega
theorem Shq.few(h:Shq (ens L))(hN:(ens L).flatten.length<=N)(hb:N<=100000000):L.length<=100000000:=by
 have h1:=wc λes he=>(h.one es he).1
 have h2:(ens L).length=L.length:=by simp[ens]
 omega
theorem Mp.lt(M:Mp w F D g Q N)(hb:F b):b < w.heap.size:=by
 obtain⟨L,_,A,_⟩:=M.ex;exact A.lt hb
theorem Mp.noU(M:Mp w F D g Q N)(hb:F b)(cs:List Value):¬ Blk w b cs 5:=by
 obtain⟨L,_,A,_⟩:=M.ex;exact A.noU hb cs
theorem Mp.keep(M:Mp w F D g Q N)(hb:BW w w'):Mp w' F D g Q N:=by
 obtain⟨L,e,A,r⟩:=M.ex;exact⟨L,e,A.keep hb,r⟩
theorem Mp.drew(M:Mp w F D g Q N):Mp w.drew F D g Q N:=by
 obtain⟨L,e,A,r⟩:=M.ex;exact⟨L,e,A.drew,r⟩
theorem Mp.same(M:Mp w F D g Q N)(h1:∀ b,F b->w'.heap[b]?=w.heap[b]?)(a:∀ b,b < w.heap.size->D b->(∃ cs,Blk w b cs 5)->w'.heap[b]?=w.heap[b]?):Mp w' F D g Q N:=by
 obtain⟨L,e,A,r⟩:=M.ex;exact⟨L,e,A.same h1 a,r⟩
theorem Mp.chg{F':Nat->Prop}(M:Mp w F D g Q N)(hc:Chg F' w w')(h1:∀ b,F' b->¬ F b)(h2:∀ b,F' b->∀ cs,¬ Blk w b cs 5):Mp w' F D g Q N:=by
 obtain⟨L,e,A,r⟩:=M.ex;exact⟨L,e,A.chg hc h1 h2,r⟩
theorem Mp.mono{D':Nat->Prop}(M:Mp w F D g Q N)(hD:∀ b,b < w.heap.size->D b->D' b):Mp w F D' g Q N:=by
 obtain⟨L,e,A,r⟩:=M.ex;exact⟨L,e,A.mono hD,r⟩
theorem Mp.more{N':Nat}(M:Mp w F D g Q N)(h:N<=N'):Mp w F D g Q N':=by
 obtain⟨L,e,A,O,S,n,r⟩:=M.ex;exact⟨L,e,A,O,S,by omega,r⟩
theorem Mp.ord(M:Mp w F D g Q N):kP Q:=by
 obtain⟨L,e,A,O,_⟩:=M.ex;exact⟨_,e,O⟩
theorem Mp.len(M:Mp w F D g Q N):Q.flatten.length<=N:=by
 obtain⟨L,rfl,A,O,S,n,r⟩:=M.ex;rw[dj,List.length_map];exact n
theorem Mp.small(M:Mp w F D g Q N):∀ x∈Q.flatten,x.1.length<=1000000000/\x.2.length<=1000000000:=by
 obtain⟨L,rfl,A,O,S,n,r⟩:=M.ex;intro x hx;rw[dj] at hx;obtain⟨e,he,rfl⟩:=List.mem_map.1 hx;obtain⟨es,b,a⟩:=List.mem_flatten.1 he;exact r es b e a
theorem oa:(∀ es∈P,∀ e∈es,p e)<->∀ e∈P.flatten,p e :=
 ⟨λh e he=>by obtain⟨es,h1,h2⟩:=List.mem_flatten.1 he;exact h es h1 e h2,λh es he e hee=>h e (List.mem_flatten.2 ⟨es,he,hee⟩)⟩
theorem mnew:CP 85 #[] w λe w'=>e=.returned (.pointer (some ⟨w.heap.size,0,none⟩))/\Mp w' (· = w.heap.size) (λ_=>False) w.heap.size [] 0/\BW w w' :=
 DX.mono λe w' ⟨g,he,a,A,B⟩=>by
  subst a;exact⟨he,⟨[],rfl,A,⟨λ_ h=>by simp[ens] at h,List.Pairwise.nil⟩,Shq.nil,Nat.le_refl _,λ_ h=>by simp[ens] at h⟩,B⟩
theorem Dw{vv:Value}{v:List Int}(M:Mp w F D g Q N)(hk:By w kv k)(hv:By w vv v)(a:k.length<=1000000000)(c:v.length<=1000000000)(j:N<=100000000) :
  CP 126 #[.pointer (some ⟨g,0,none⟩),kv,vv] w λe w'=>e=.returned (.bool (!gU Q k))/\∃ F',Mp w' F' (λb=>D b\/w.heap.size<=b) g (oF Q k v) (N+1)/\(∀ b,F' b->F b\/w.heap.size<=b)/\Chg F w w':=by
 obtain⟨L,rfl,A,O,S,n,r⟩:=M.ex;refine(Ej A O (λes he=>(S.one es he).2) (S.few n j) hk hv a c).mono λe w' ⟨he,F',f,nk,d,e1,i,hF,hc⟩=>?_
 refine⟨by rw[gH];exact he,F',⟨f,by rw[e1,rE],i,by rw[e1];exact O.set _,by rw[e1];exact S.set O _,?_,?_⟩,hF,hc⟩
 ·rw[e1,EW O];split<;>omega
 rw[e1];rw[oa] at r ⊢;intro x hx
 cases hh:has (ens L) k
 ·obtain⟨X,Y,e2,e3,_⟩:=gI O (e:=⟨nk,k,d,v⟩) hh;rw[e3] at hx;rw[e2] at r;rcases List.mem_append.1 hx with h | h
  ·exact r x (List.mem_append_left _ h)
  rcases List.mem_cons.1 h with h | h
  ·subst h;exact⟨a,c⟩
  exact r x (List.mem_append_right _ h)
 obtain⟨X,y,Y,e2,hy,e3⟩:=gO O (e:=⟨nk,k,d,v⟩) hh;rw[e3] at hx;rw[e2] at r;rcases List.mem_append.1 hx with h | h
 ·exact r x (List.mem_append_left _ h)
 rcases List.mem_cons.1 h with h | h
 ·subst h;exact⟨by simp only;rw[hy];exact a,c⟩
 exact r x (List.mem_append_right _ (List.mem_cons_of_mem _ h))
theorem mdel(M:Mp w F D g Q N)(hk:By w kv k)(d:N<=100000000) :
  CP 171 #[.pointer (some ⟨g,0,none⟩),kv] w λe w'=>e=.returned (.bool (gU Q k))/\∃ F',Mp w' F' D g (qu Q k) N/\(∀ b,F' b->F b\/w.heap.size<=b)/\Chg F w w':=by
 obtain⟨L,rfl,A,O,S,n,r⟩:=M.ex;refine(uQ A O (λes he=>(S.one es he).2) (S.few n d) hk).mono λe w' ⟨he,F',a,e1,c,hF,hc⟩=>?_
 refine⟨by rw[gH];exact he,F',⟨a,by rw[e1,wg],c,by rw[e1];exact O.del _,by rw[e1];exact S.del O _,?_,?_⟩,hF,hc⟩
 ·rw[e1]
  cases hh:has (ens L) k
  ·rw[te hh];exact n
  obtain⟨X,x,Y,e2,_,e3⟩:=ow O hh;rw[e2] at n;rw[e3];simp only[List.length_append,List.length_cons] at n ⊢;omega
 rw[e1];rw[oa] at r ⊢;intro x hx
 cases hh:has (ens L) k
 ·rw[te hh] at hx;exact r x hx
 obtain⟨X,y,Y,e2,_,e3⟩:=ow O hh;rw[e3] at hx;rw[e2] at r;rcases List.mem_append.1 hx with h | h
 ·exact r x (List.mem_append_left _ h)
 exact r x (List.mem_append_right _ (List.mem_cons_of_mem _ h))
theorem mget(M:Mp w F D g Q N)(hk:By w kv k)(b:N<=100000000) :
  CP 71 #[.pointer (some ⟨g,0,none⟩),kv] w λe w'=>∃ v,e=.returned (.tuple #[v,.bool (gU Q k)])/\OB w' (w.heap.size <= ·) v (if gU Q k then yj Q k else [])/\BW w w':=by
 obtain⟨L,rfl,A,O,S,n,r⟩:=M.ex;rw[gH,Et];exact fR A O (λes he=>by have:=(S.one es he).2;omega) (S.few n b) hk λp a e he=>(r p.es (List.mem_map.2 ⟨p,a,rfl⟩) e he).2
end
end Pg
end
section
namespace Kv
open Go.RowKit Go.Lib Pg
section
variable {V D V' D' K:Nat->Prop}{w w':World}{v c jv:Value}{l:List Int}{g b n N:Nat}{cs cs':List Value}{oj:Option Nat}{E:aD}{W:List aD}
theorem KF:Kd Tryz.prog 263 1 1 8 .nilFunc:=⟨by kernel_rfl,by kernel_rfl,rfl,by simp[Value.cells,Value.oneCell'],by decide⟩
theorem KJ:Kd Tryz.prog 145 265 1 24 (.agg #[.slice none 0 0]):=⟨by kernel_rfl,by kernel_rfl,rfl,by simp[Value.cells,Value.oneCell'],by decide⟩
structure mF(w:World)(V D:Nat→Prop)(g:Nat)(u:Und)(c:Value):Prop where
  short:u.1.length≤1000000000∧∀ x,u.2=some x→x.length≤1000000000
  ex:∃ s1 s2 kv,V s1∧V s2∧Blk w s1 [.pointer (some ⟨g,0,none⟩)] 46∧Blk w s2 [kv] 29∧OB w D kv u.1 ∧
    ((u.2 = none ∧ c = .func (.func 205) #[] #[.pointer (some ⟨s1, 0, none⟩), .pointer (some ⟨s2, 0, none⟩)]) ∨
     ∃ s3 vv x,V s3∧Blk w s3 [vv] 29∧OB w D vv x∧u.2=some x∧c=.func (.func 206) #[] #[.pointer (some ⟨s1,0,none⟩),.pointer (some ⟨s2,0,none⟩),.pointer (some ⟨s3,0,none⟩)])
structure jA(V D:Nat->Prop)(w w':World):Prop where
 var:∀ b cs t,V b->Blk w b cs t->(t=46\/t=29)->w'.heap[b]?=w.heap[b]?
 byt:∀ b,b < w.heap.size->D b->(∃ cs,Blk w b cs 5)->w'.heap[b]?=w.heap[b]?
theorem jA.ob(h:jA V D w w')(O:OB w D v l):OB w' D v l :=
 ⟨O.oct,O.ex.imp id (by
  rintro⟨b,c,e,hd,hR⟩
  exact⟨b,c,e,hd,hR.same (h.byt b hR.lt hd hR.kind)⟩)⟩
theorem mF.stay{u:Und}(h:mF w V D g u c)(hs:jA V D w w'):mF w' V D g u c:=by
 obtain⟨s1,s2,kv,v1,v2,b1,b,ok,r⟩:=h.ex;refine⟨h.short,s1,s2,kv,v1,v2,b1.same (hs.var _ _ _ v1 b1 (.inl rfl)),b.same (hs.var _ _ _ v2 b (.inr rfl)),hs.ob ok,r.imp id ?_⟩;rintro⟨s3,vv,x,a,d,f,e⟩;exact⟨s3,vv,x,a,d.same (hs.var _ _ _ a d (.inr rfl)),hs.ob f,e⟩
theorem mF.mono{u:Und}(h:mF w V D g u c)(a:∀ b,V b->V' b)(d:∀ b,b < w.heap.size->D b->D' b):mF w V' D' g u c:=by
 obtain⟨s1,s2,kv,v1,v2,b1,i,ok,r⟩:=h.ex;refine⟨h.short,s1,s2,kv,a _ v1,a _ v2,b1,i,ok.mono d,r.imp id ?_⟩;rintro⟨s3,vv,x,f,k,j,e⟩;exact⟨s3,vv,x,a _ f,k,j.mono d,e⟩
theorem mF.one{u:Und}(h:mF w V D g u c):c.oneCell'=true:=by
 obtain⟨s1,s2,kv,v1,v2,b1,b2,ok,⟨_,rfl⟩ | ⟨s3,vv,x,v3,b3,ov,_,rfl⟩⟩:=h.ex<;>rfl
def fj(w:World)(V D:Nat->Prop)(g:Nat)(U:List Und)(cs:List Value):Prop:=cs.length=U.length/\∀ (i:Nat) u c,U[i]?=some u->cs[i]?=some c->mF w V D g u c
theorem fj.stay{U:List Und}(h:fj w V D g U cs)(hs:jA V D w w'):fj w' V D g U cs:=⟨h.1,λi u c hu hc=>(h.2 i u c hu hc).stay hs⟩
theorem fj.mono{U:List Und}(h:fj w V D g U cs)(hV:∀ b,V b->V' b)(hD:∀ b,b < w.heap.size->D b->D' b):fj w V' D' g U cs:=⟨h.1,λi u c hu hc=>(h.2 i u c hu hc).mono hV hD⟩
theorem fj.app{U a:List Und}(h:fj w V D g U cs)(b:fj w V D g a cs'):fj w V D g (U ++ a) (cs ++ cs'):=by
 refine⟨by rw[List.length_append,List.length_append,h.1,b.1],λi u c hu hc=>?_⟩;by_cases hi:i < U.length
 ·rw[List.getElem?_append_left hi] at hu;rw[List.getElem?_append_left (by rw[h.1];exact hi)] at hc;exact h.2 i u c hu hc
 rw[List.getElem?_append_right (by omega)] at hu;rw[List.getElem?_append_right (by rw[h.1];omega),h.1] at hc;exact b.2 _ u c hu hc
theorem fj.one{U:List Und}(h:fj w V D g U cs):∀ c∈cs,c.oneCell'=true:=λc hc=>by
 obtain⟨i,hi⟩:=List.getElem?_of_mem hc;have a:=(List.getElem?_eq_some_iff.1 hi).1;exact(h.2 i (U[i]'(by rw[<- h.1];exact a)) c (List.getElem?_eq_getElem _) hi).one
theorem fj.nil(w:World)(V D:Nat->Prop)(g:Nat):fj w V D g [] []:=⟨rfl,λi u c h _=>by simp at h⟩
structure Jr where
 U:List Und
 v:Value
 o:Option Nat
def JrA(w:World)(V D:Nat->Prop)(g:Nat)(j:Jr):Prop:=∃ cs,fj w V D g j.U cs/\((j.o=none/\j.v=.slice none 0 0/\j.U=[])\/∃ b c,j.o=some b/\j.v=.slice (some ⟨b,0,none⟩) j.U.length c/\Rw w 1 1 b j.U.length c cs)
theorem JrA.stay{j:Jr}(h:JrA w V D g j)(hs:jA V D w w')(ho:∀ b,j.o=some b->w'.heap[b]?=w.heap[b]?):JrA w' V D g j:=by
 obtain⟨cs,hc,r⟩:=h;refine⟨cs,hc.stay hs,r.imp id ?_⟩;rintro⟨b,c,e1,e2,a⟩;exact⟨b,c,e1,e2,a.same (ho b e1)⟩
theorem JrA.mono{j:Jr}(h:JrA w V D g j)(hV:∀ b,V b->V' b)(hD:∀ b,b < w.heap.size->D b->D' b):JrA w V' D' g j:=by
 obtain⟨cs,hc,r⟩:=h;exact⟨cs,hc.mono hV hD,r⟩
theorem JrA.kind{j:Jr}(h:JrA w V D g j)(hb:j.o=some b):∃ cs,Blk w b cs 1:=by
 obtain⟨cs,hc,⟨e,_⟩ | ⟨b',c,e,_,hR⟩⟩:=h
 ·rw[hb] at e;cases e
 rw[hb] at e;cases e;exact hR.kind
structure JnA(w:World)(V D:Nat->Prop)(g:Nat)(jv:Value)(T:List Jr)(oj:Option Nat):Prop where
 row:(oj=none/\jv=.slice none 0 0/\T=[])\/∃ b c,oj=some b/\jv=.slice (some ⟨b,0,none⟩) T.length c/\Rw w 265 1 b T.length c (T.map Jr.v)
 each:∀ j∈T,JrA w V D g j
 apart:(T.filterMap Jr.o).Nodup
theorem JnA.stay{T:List Jr}(h:JnA w V D g jv T oj)(hs:jA V D w w')(ho:∀ b,oj=some b->w'.heap[b]?=w.heap[b]?)(hb:∀ j∈T,∀ b,j.o=some b->w'.heap[b]?=w.heap[b]?):JnA w' V D g jv T oj :=
 ⟨h.row.imp id (by rintro⟨b,c,e1,e2,d⟩;exact⟨b,c,e1,e2,d.same (ho b e1)⟩),λj a=>(h.each j a).stay hs (hb j a),h.apart⟩
theorem JnA.mono{T:List Jr}(h:JnA w V D g jv T oj)(hV:∀ b,V b->V' b)(hD:∀ b,b < w.heap.size->D b->D' b):JnA w V' D' g jv T oj :=
 ⟨h.row,λj hj=>(h.each j hj).mono hV hD,h.apart⟩
theorem JnA.kind{T:List Jr}(h:JnA w V D g jv T oj)(hb:oj=some b):∃ cs,Blk w b cs 265:=by
 rcases h.row with⟨e,_⟩ | ⟨b',c,e,_,hR⟩
 ·rw[hb] at e;cases e
 rw[hb] at e;cases e;exact hR.kind
def tot(T:List Jr):Nat:=(T.map λj=>j.U.length).sum
structure Own(w:World)(K F V:Nat->Prop)(g:Nat)(T:List Jr)(oj:Option Nat):Prop where
 top:K g
 map:∀ b,F b->K b
 var:∀ b,V b->K b
 jrn:∀ b,oj=some b->K b
 bck:∀ j∈T,∀ b,j.o=some b->K b
 kind:∀ b,K b->∃ cs t,Blk w b cs t/\t≠5
 lp:¬ F g
 kt:∀ b,V b->¬ F b
 mP:∀ b,oj=some b->¬ F b
 l5:∀ j∈T,∀ b,j.o=some b->¬ F b
 vk:∀ b,V b->∃ cs t,Blk w b cs t/\(t=46\/t=29)
structure SA(w:World)(K D:Nat->Prop)(g:Nat)(E:aD)(W:List aD)(n N:Nat):Prop where
 ex:∃ F V m Q jv T oj,Blk w g [.pointer (some ⟨m,0,none⟩),jv,.int .i64 n] 152/\Mp w F D m Q N/\Q.flatten=E/\JnA w V D g jv T oj/\gy (T.reverse.map Jr.U) W E/\tot T+E.length<=N/\T.length<=16/\Own w K F V g T oj
theorem SA.lt(h:SA w K D g E W n N)(hb:K b):b < w.heap.size:=by
 obtain⟨F,V,m,Q,jv,T,oj,_,_,_,_,_,_,_,O⟩:=h.ex;obtain⟨cs,t,h,_⟩:=O.kind b hb;exact h.lt
theorem SA.top(h:SA w K D g E W n N):K g:=by
 obtain⟨F,V,m,Q,jv,T,oj,_,_,_,_,_,_,_,O⟩:=h.ex;exact O.top
theorem Own.same{F:Nat->Prop}{T:List Jr}(O:Own w K F V g T oj)(h1:∀ b,K b->w'.heap[b]?=w.heap[b]?):Own w' K F V g T oj :=
 ⟨O.top,O.map,O.var,O.jrn,O.bck,λb hb=>by
  obtain⟨cs,t,hk,a⟩:=O.kind b hb;exact⟨cs,t,hk.same (h1 b hb),a⟩,O.lp,O.kt,O.mP,O.l5,λb hv=>by
  obtain⟨cs,t,hk,a⟩:=O.vk b hv
  exact⟨cs,t,hk.same (h1 b (O.var b hv)),a⟩⟩
theorem SA.same(h:SA w K D g E W n N)(h1:∀ b,K b->w'.heap[b]?=w.heap[b]?)(c:∀ b,b < w.heap.size->D b->(∃ cs,Blk w b cs 5)->w'.heap[b]?=w.heap[b]?):SA w' K D g E W n N:=by
 obtain⟨F,V,m,Q,f,T,o,hb,hm,he,l,hk,d,i,O⟩:=h.ex
 have k:jA V D w w':=⟨λb _ _ hv _ _=>h1 b (O.var b hv),c⟩
 exact⟨F,V,m,Q,f,T,o,hb.same (h1 g O.top),hm.same (λb hF=>h1 b (O.map b hF)) c,he,l.stay k (λb e=>h1 b (O.jrn b e)) (λj a b e=>h1 b (O.bck j a b e)),hk,d,i,O.same h1⟩
theorem SA.keep(h:SA w K D g E W n N)(hb:BW w w'):SA w' K D g E W n N:=h.same (λb hK=>hb.block b (h.lt hK)) (λb hl _ _=>hb.block b hl)
theorem SA.chg{a:Nat->Prop}(h:SA w K D g E W n N)(hc:Chg a w w')(h1:∀ b,a b->¬ K b)(e:∀ b,a b->∀ cs,¬ Blk w b cs 5):SA w' K D g E W n N :=
 h.same (λb c=>hc.same b (h.lt c) λf=>h1 b f c) (λb d _ hk=>hc.same b d λf=>by obtain⟨cs,k⟩:=hk;exact e b f cs k)
theorem SA.mono(h:SA w K D g E W n N)(a:∀ b,b < w.heap.size->D b->D' b):SA w K D' g E W n N:=by
 obtain⟨F,V,m,Q,f,T,i,hb,hm,he,e,hk,d,c,O⟩:=h.ex;exact⟨F,V,m,Q,f,T,i,hb,hm.mono a,he,e.mono (λ_ h=>h) a,hk,d,c,O⟩
theorem SA.more{N':Nat}(h:SA w K D g E W n N)(a:N<=N'):SA w K D g E W n N':=by
 obtain⟨F,V,m,Q,e,T,f,hb,hm,he,d,hk,c,b,O⟩:=h.ex;exact⟨F,V,m,Q,e,T,f,hb,hm.more a,he,d,hk,Nat.le_trans c a,b,O⟩
theorem SA.size(h:SA w K D g E W n N):E.length<=N:=by
 obtain⟨F,V,m,Q,jv,T,oj,hb,hm,rfl,_⟩:=h.ex;exact hm.len
theorem SA.small(h:SA w K D g E W n N):∀ x∈E,x.1.length<=1000000000/\x.2.length<=1000000000:=by
 obtain⟨F,V,m,Q,jv,T,oj,hb,hm,rfl,_⟩:=h.ex;exact hm.small
theorem SA.depth(h:SA w K D g E W n N):W.length<=16:=by
 obtain⟨F,V,m,Q,jv,T,oj,hb,hm,he,hj,hk,ht,hl,O⟩:=h.ex;have:=hk.len;simp at this;omega
end
end Kv
end
section
namespace Kv
open Go.RowKit Go.Lib Pg
attribute [local go_sem] Oper.semAt_some
section
variable {w w':World}{K D F V:Nat->Prop}{g n N m:Nat}{E:aD}{W:List aD}{Q:List (List KV)}{jv kv:Value}{T:List Jr}{oj:Option Nat}{x:Int}{cs:List Value}{ao:Option Addr}{k:List Int}
structure SX(w:World)(K D F V:Nat->Prop)(g m:Nat)(Q:List (List KV))(jv:Value)(T:List Jr)(oj:Option Nat)(n N:Nat):Prop where
 blk:Blk w g [.pointer (some ⟨m,0,none⟩),jv,.int .i64 n] 152
 map:Mp w F D m Q N
 jn:JnA w V D g jv T oj
 tot:tot T+Q.flatten.length<=N
 len:T.length<=16
 own:Own w K F V g T oj
theorem SA.open(h:SA w K D g E W n N):∃ F V m Q jv T oj,SX w K D F V g m Q jv T oj n N/\Q.flatten=E/\gy (T.reverse.map Jr.U) W E:=by
 obtain⟨F,V,m,Q,jv,T,oj,hb,hm,he,c,hk,b,a,O⟩:=h.ex;exact⟨F,V,m,Q,jv,T,oj,⟨hb,hm,c,by rw[he];exact b,a,O⟩,he,hk⟩
theorem SX.shut(h:SX w K D F V g m Q jv T oj n N)(he:Q.flatten=E)(hk:gy (T.reverse.map Jr.U) W E):SA w K D g E W n N :=
 ⟨F,V,m,Q,jv,T,oj,h.blk,h.map,he,h.jn,hk,by have:=h.tot;rw[he] at this;exact this,h.len,h.own⟩
theorem l9{x:Nat}{t:TypeId}(hx:Blk w x cs t)(hc:Chg (·=x) w w')(h1:t≠46:=by decide)(f:t≠29:=by decide)(h:t≠5:=by decide):jA V D w w' :=
 ⟨λb a i _ hb g=>hc.same b hb.lt (λe=>by
  have c:b=x:=e;subst c;have:=(hx.eq hb).2;subst this;exact g.elim h1 f),λb d _ hk=>hc.same b d (λe=>by
  have c:b=x:=e;subst c;obtain⟨a,k⟩:=hk
  exact h (hx.eq k).2)⟩
theorem Own.chg1{x:Nat}(O:Own w K F V g T oj)(hs:jA V D w w')(hc:Chg (·=x) w w'){t:TypeId}(hx:Blk w' x cs t)(ht:t≠5):Own w' K F V g T oj :=
 ⟨O.top,O.map,O.var,O.jrn,O.bck,λb hb=>by
  by_cases e:b=x
  ·subst e;exact⟨cs,t,hx,ht⟩
  ·obtain⟨c,d,hk,a⟩:=O.kind b hb;exact⟨c,d,hk.chg hc e,a⟩,O.lp,O.kt,O.mP,O.l5,λb hv=>by
  obtain⟨cs,t,hk,ht⟩:=O.vk b hv
  exact⟨cs,t,hk.same (hs.var b cs t hv hk ht),ht⟩⟩
theorem SX.top{d:Nat}(h:SX w K D F V g m Q jv T oj n N)(hc:Chg (·=g) w w')(hb:Blk w' g [.pointer (some ⟨m,0,none⟩),jv,.int .i64 d] 152):SX w' K D F V g m Q jv T oj d N :=
 ⟨hb,h.map.chg hc (λb e hF=>h.own.lp (by have c:b=g:=e; exact c▸hF)) (λb e cs k=>by
   have c:b=g:=e;subst c
   exact absurd (h.blk.eq k).2 (by decide)),h.jn.stay (l9 h.blk hc)
   (λb e=>by
    obtain⟨cs,k⟩:=h.jn.kind e
    exact hc.same b k.lt (λc=>by
     have a:b=g:=c;subst a
     exact absurd (h.blk.eq k).2 (by decide)))
   (λj f b e=>by
    obtain⟨cs,k⟩:=(h.jn.each j f).kind e
    exact hc.same b k.lt (λc=>by
     have a:b=g:=c;subst a
     exact absurd (h.blk.eq k).2 (by decide))),h.tot,h.len,h.own.chg1 (l9 (D:=D) h.blk hc) hc hb (by decide)⟩
theorem SX.keep(h:SX w K D F V g m Q jv T oj n N)(hb:BW w w'):SX w' K D F V g m Q jv T oj n N:=by
 have a:∀ b,K b->w'.heap[b]? = w.heap[b]? := λb f=>by
  obtain⟨cs,t,k,_⟩:=h.own.kind b f;exact hb.block b k.lt
 exact⟨h.blk.keep hb,h.map.keep hb,h.jn.stay ⟨λb _ _ _ k _=>hb.block b k.lt,λb c _ _=>hb.block b c⟩ (λb e=>a b (h.own.jrn b e)) (λj d b e=>a b (h.own.bck j d b e)),h.tot,h.len,h.own.same a⟩
theorem Mp.fit{N':Nat}(M:Mp w F D g Q N)(h:Q.flatten.length<=N'):Mp w F D g Q N':=by
 obtain⟨L,e,A,O,S,n,r⟩:=M.ex;exact⟨L,e,A,O,S,by rw[<- e,dj,List.length_map] at h;exact h,r⟩
theorem vq{a:Addr}(hc:w.cell? a=some (.int .i64 x))(b:w.frozen? a=false)(h0:0<=x)(h1:x<=4000000000000000000) :
  (callFunc 150 #[.pointer (some a),.int .i64 1]).run Tryz.prog w=.ok (.value (.int .i64 (x+1))) (w.setCell a (.int .i64 (x+1))) :=
 run_call_add Tryz.func150 (by kernel_rfl) (by kernel_rfl) (by kernel_rfl) .i64 (by kernel_rfl) hc b (by
  have e:IntKind.i64.wrap (x+1)=x+1:=by rw[IntKind.wrap_i64];omega
  simp[Op.intArith,e])
theorem DI(hc:w.cell? ⟨g,2,none⟩=some (.int .i64 x))(c:w.frozen? ⟨g,2,none⟩=false)(h0:0<=x)(h1:x<=4000000000000000000) :
  Calls Tryz.prog 102 #[.pointer (some ⟨g,2,none⟩),.int .i64 1] w λe w'=>e=.returned (.int .i64 (x+1))/\w'=w.setCell ⟨g,2,none⟩ (.int .i64 (x+1)):=by
 have b:=vq hc c h0 h1;go_enter Tryz.func102,Tryz.ntmps102;go_wp2_with (simp only[b]);go_ret;exact⟨rfl,rfl⟩
theorem ll(hc:w.cell? ⟨g,2,none⟩=some (.int .i64 x))(b:w.frozen? ⟨g,2,none⟩=false)(h0:0≤x:=by omega)(h1:x≤4000000000000000000:=by omega) :
    Calls Tryz.prog 70 #[.pointer (some ⟨g,0,none⟩)] w λe w'=>e=.returned (.tuple #[])∧w'=w.setCell ⟨g,2,none⟩ (.int .i64 (x+1)):=by
  have u:=DI hc b h0 h1;clear hc b;go_enter Tryz.func70,Tryz.ntmps70;go_wp2_with (go_at_call 102;refine u.mono ?_;rintro e c ⟨rfl,rfl⟩);go_end0;exact⟨rfl,rfl⟩
theorem fX(h:SX w K D F V g m Q jv T oj n N)(hn:n<=4000000000000000000) :
  CP 70 #[.pointer (some ⟨g,0,none⟩)] w λe w'=>e=.returned (.tuple #[])/\SX w' K D F V g m Q jv T oj (n+1) N/\Chg (·=g) w w':=by
 refine(ll (h.blk.cell (i:=2) rfl) (h.blk.free 2)).mono ?_
 rintro e w' ⟨rfl,rfl⟩
 have hc:Chg (·=g) w (w.setCell ⟨g,2,none⟩ (.int .i64 ((n:Int)+1))):=(Chg.refl (·=g) w).cell (.inl rfl) _;refine⟨rfl,h.top hc ?_,hc⟩;have:=h.blk.setCell (i:=2) (.int .i64 ((n:Int)+1));exact this
theorem oU{c:Nat}{b nv:Value}(h:Blk w g [b,.slice ao n c,nv] 152) :
  Calls Tryz.prog 158 #[.pointer (some ⟨g,0,none⟩)] w λe w'=>e=.returned (.int .i64 n)/\w'=w:=by
 have c1:=h.cell (i:=1) rfl;clear h;go_enter Tryz.func158,Tryz.ntmps158;go_wp2;go_ret;exact⟨rfl,rfl⟩
theorem JnA.shape(h:JnA w V D g jv T oj):∃ ao c,jv=.slice ao T.length c:=by
 rcases h.row with⟨_,e,rfl⟩ | ⟨b,c,_,e,_⟩
 ·exact⟨none,0,e⟩
 exact⟨_,c,e⟩
theorem qi(h:SX w K D F V g m Q jv T oj n N) :
  CP 158 #[.pointer (some ⟨g,0,none⟩)] w λe w'=>e=.returned (.int .i64 T.length)/\w'=w:=by
 obtain⟨a,c,e⟩:=h.jn.shape;have hb:=h.blk;rw[e] at hb;exact oU hb
theorem snew:Calls Tryz.prog 64 #[] w λe w'=>∃ g K,e=.returned (.pointer (some ⟨g,0,none⟩))/\SA w' K (λ_=>False) g [] [] 0 0/\(∀ b,K b->w.heap.size<=b)/\BW w w':=by
 have u:=mnew (w:=w);go_enter Tryz.func64,Tryz.ntmps64;go_wp2_with (go_at_call 85;refine u.mono ?_;rintro e c ⟨rfl,M,B⟩);go_ret;have d:=M.lt (b:=w.heap.size) rfl;have al:=aa c (.cells #[.pointer (some ⟨w.heap.size,0,none⟩),.slice none 0 0,.int .i64 0] 152);have bl:=ay c [.pointer (some ⟨w.heap.size,0,none⟩),.slice none 0 0,.int .i64 0] 152;have M2:=M.keep al;refine⟨c.heap.size,λb=>b=w.heap.size\/b=c.heap.size,rfl,⟨_,λ_=>False,_,_,_,[],none,bl,M2,rfl,⟨.inl ⟨rfl,rfl,rfl⟩,λ_ h=>by simp at h,List.nodup_nil⟩,trivial,by decide,by decide,?_⟩,λb hb=>by have:=B.size;omega,ae B al⟩;refine⟨.inr rfl,λb hb=>.inl hb,λ_ h=>h.elim,(λ_ h=>by cases h),(λ_ h=>by simp at h),λb hb=>?_,(λh=>by have f:c.heap.size=w.heap.size:=h;omega),λ_ h=>h.elim,(λ_ h=>by cases h),(λ_ h=>by simp at h),λ_ h=>h.elim⟩;rcases hb with rfl | rfl
 ·obtain⟨L,_,A,_⟩:=M2.ex;exact A.kind _ rfl
 exact⟨_,_,bl,by decide⟩
theorem mU(h:SX w K D F V g m Q jv T oj n N)(hk:By w kv k)(a:N<=100000000) :
  CP 71 #[.pointer (some ⟨m,0,none⟩),kv] w λe w'=>∃ v,e=.returned (.tuple #[v,.bool (look Q.flatten k).isSome])/\OB w' (w.heap.size <= ·) v ((look Q.flatten k).getD [])/\BW w w':=by
 have u:=mget h.map hk a;rw[Dy h.map.ord,j0 h.map.ord] at u;exact u
theorem qH(h:SX w K D F V g m Q jv T oj n N)(hk:By w kv k)(b:N<=100000000) :
  Calls Tryz.prog 138 #[.pointer (some ⟨g,0,none⟩),kv] w λe w'=>e=.returned (.bool (look Q.flatten k).isSome)/\BW w w':=by
 have c0:=h.blk.cell (i:=0) rfl;have u:=mU h hk b;obtain⟨f,c,rfl,-⟩:=id hk.ex;generalize (look Q.flatten k).isSome=r at *;generalize (look Q.flatten k).getD []=L at *;clear h hk;go_enter Tryz.func138,Tryz.ntmps138;go_wp2_with (go_at_call 71;refine u.mono ?_;rintro e d ⟨v,rfl,O,B⟩;obtain⟨a1,c1,rfl,-⟩:=id O.by.ex);go_ret;exact⟨rfl,B⟩
end
section
variable {w w':World}{K D F V D':Nat->Prop}{g m n N o s1 s2:Nat}{Q Q':List (List KV)}{jv v c u kv:Value}{T:List Jr}{oj:Option Nat}{ao:Option Addr}{k:List Int}
theorem aG{p:Prop}(h:p):Hid p:=h
theorem SX.vars{S:Nat->Prop}(h:SX w K D F V g m Q jv T oj n N)(h1:∀ b,S b->¬ F b)(a:∀ b,S b->∃ cs t,Blk w b cs t/\(t=46\/t=29))(c:∀ b,b < w.heap.size->D b->D' b) :
  SX w (λb=>K b\/S b) D' F (λb=>V b\/S b) g m Q jv T oj n N :=
 ⟨h.blk,h.map.mono c,h.jn.mono (λ_=>.inl) c,h.tot,h.len,.inl h.own.top,λb hb=>.inl (h.own.map b hb),λb hb=>hb.imp (h.own.var b) id,λb hb=>.inl (h.own.jrn b hb),λj f b hb=>.inl (h.own.bck j f b hb),λb hb=>hb.elim (h.own.kind b) (λd=>by
  obtain⟨cs,t,k,e⟩:=a b d
  exact⟨cs,t,k,by rcases e with e | e<;>subst e<;>decide⟩),h.own.lp,λb hb=>hb.elim (h.own.kt b) (h1 b),h.own.mP,h.own.l5,λb hb=>hb.elim (h.own.vk b) (a b)⟩
theorem SX.mapped{F':Nat->Prop}{N':Nat}(h:SX w K D F V g m Q jv T oj n N)(s:Kv.tot T+Q'.flatten.length<=N')(l:Mp w' F' D' m Q' N')(hF:∀ b,F' b->F b\/w.heap.size<=b)(q:∀ b,D b->D' b)(hc:Chg F w w') :
  SX w' (λb=>(K b/\¬ F b)\/F' b) D' F' V g m Q' jv T oj n N':=by
 have i:∀ b,K b->b < w.heap.size:=λb hb=>by obtain⟨cs,t,k,_⟩:=h.own.kind b hb;exact k.lt
 have no:∀ b,K b->¬ F b->¬ F' b:=λb hb hn hf=>by
  rcases hF b hf with o | o
  ·exact hn o
  have:=i b hb;omega
 have p:jA V D w w':=⟨λb _ _ hv k _=>hc.same b k.lt (h.own.kt b hv),λb r _ k=>hc.same b r (λf=>by obtain⟨cs,k⟩:=k;exact h.map.noU f cs k)⟩
 have a:JnA w' V D g jv T oj:=h.jn.stay p (λb e=>hc.same b (i b (h.own.jrn b e)) (h.own.mP b e)) (λj a b e=>hc.same b (i b (h.own.bck j a b e)) (h.own.l5 j a b e))
 refine⟨h.blk.chg hc h.own.lp,l,a.mono (λ_ h=>h) (λb _=>q b),s,h.len,.inl ⟨h.own.top,h.own.lp⟩,λb=>.inr,λb hb=>.inl ⟨h.own.var b hb,h.own.kt b hb⟩,λb hb=>.inl ⟨h.own.jrn b hb,h.own.mP b hb⟩,λj a b hb=>.inl ⟨h.own.bck j a b hb,h.own.l5 j a b hb⟩,λb hb => ?_,no g h.own.top h.own.lp,λb hb=>no b (h.own.var b hb) (h.own.kt b hb),λb hb=>no b (h.own.jrn b hb) (h.own.mP b hb),λj a b hb=>no b (h.own.bck j a b hb) (h.own.l5 j a b hb),λb hv=>by
  obtain⟨cs,t,k,c⟩:=h.own.vk b hv
  exact⟨cs,t,k.same (p.var b cs t hv k c),c⟩⟩
 have d:∀ b,F' b->∃ cs t,Blk w' b cs t/\t≠5:=λb hf=>by
  obtain⟨L,_,A,_⟩:=l.ex;exact A.kind b hf
 rcases hb with⟨hb,hf⟩ | hb
 ·obtain⟨cs,t,k,c⟩:=h.own.kind b hb;exact⟨cs,t,k.chg hc hf,c⟩
 exact d b hb
theorem xg(c:w.cell? ⟨g,o,none⟩=some v):(loadVar 46 ⟨g,o,none⟩).run Tryz.prog w=.ok v w:=by go_simp
theorem sN(c:w.cell? ⟨g,o,none⟩=some v):(loadVar 144 ⟨g,o,none⟩).run Tryz.prog w=.ok v w:=by go_simp
theorem tZ(c:w.cell? ⟨g,o,none⟩=some v):(loadVar 29 ⟨g,o,none⟩).run Tryz.prog w=.ok v w:=by go_simp
theorem mo{a:Act}{o:Oper}(k q:Nat){c:Nat}(ho:o.op=.store 29 (.tmp k) (.tmp q))(hp:a.eval (.tmp k)=.pointer (some ⟨g,0,none⟩))(hq:a.eval (.tmp q)=.slice ao n c)(hc:w.cell? ⟨g,0,none⟩=some u)(hf:w.frozen? ⟨g,0,none⟩=false) :
  (execOp a.eval o).run Tryz.prog w=.ok .skip (w.setCell ⟨g,0,none⟩ (.slice ao n c)):=by
 simp only[execOp,ho,hp,hq];go_simp
def Rds(g m s1 s2:Nat)(jv:Value)(n:Int)(kv:Value)(w:World):Prop:=Blk w s1 [.pointer (some ⟨g,0,none⟩)] 46/\Blk w g [.pointer (some ⟨m,0,none⟩),jv,.int .i64 n] 152/\Blk w s2 [kv] 29
theorem Rds.keep{n:Int}(h:Rds g m s1 s2 jv n kv w)(hb:BW w w'):Rds g m s1 s2 jv n kv w':=⟨h.1.keep hb,h.2.1.keep hb,h.2.2.keep hb⟩
theorem AE(h:SX w K D F V g m Q jv T oj n N)(b1:Blk w s1 [.pointer (some ⟨g,0,none⟩)] 46)(j:Blk w s2 [kv] 29)(p:¬ F s1)(q:¬ F s2)(hk:By w kv k)(r:N<=100000000) :
  Calls Tryz.prog 205 #[.pointer (some ⟨s1,0,none⟩),.pointer (some ⟨s2,0,none⟩)] w λe w'=>e=.returned (.tuple #[])/\∃ F',SX w' (λb=>(K b/\¬ F b)\/F' b) D F' V g m (qu Q k) jv T oj n N/\(∀ b,F' b->F b\/w.heap.size<=b)/\Chg F w w':=by
 have u:=mdel h.map.drew hk.drew r
 have hS:Rds g m s1 s2 jv n kv w.drew:=⟨b1.drew,h.blk.drew,j.drew⟩
 have f:=aG h;clear h b1 j hk;go_enter Tryz.func205,Tryz.ntmps205;refine cZ (S:=Rds g m s1 s2 jv n kv) (by kernel_rfl) hS ?_
 refine aV 0 (some 2) (.pointer (some ⟨g,0,none⟩)) 46 0 s1 0 (λw' h=>xg (h.1.cell (i:=0) rfl)) hS ?_
 refine aI 1 3 (.pointer (some ⟨g,0,none⟩)) hS ?_
 refine aI 2 4 (.pointer (some ⟨g,0,none⟩)) hS ?_
 refine aV 3 (some 5) (.pointer (some ⟨m,0,none⟩)) 144 4 g 0 (λw' h=>sN (h.2.1.cell (i:=0) rfl)) hS ?_
 refine aV 4 (some 6) kv 29 1 s2 0 (λw' h=>tZ (h.2.2.cell (i:=0) rfl)) hS ?_
 refine da 5 (some 7) 171 #[.pointer (some ⟨m,0,none⟩),kv] u ?_
 rintro s o ⟨rfl,F',l,hF,c⟩;refine⟨_,rfl,⟨hS.1.chg c p,hS.2.1.chg c f.out.own.lp,hS.2.2.chg c q⟩,cn ?_⟩;simp only[Act.put,List.setIfInBounds_toArray,List.set_cons_zero,List.set_cons_succ];go_end0
 have d:Chg F w o:=⟨c.os,c.tape,c.output,c.size,c.same⟩
 exact⟨rfl,F',f.out.mapped (by have:=f.out.tot;have:=mu (E:=Q.flatten) k;rw[fy f.out.map.ord];omega) l hF (λ_ h=>h) d,hF,d⟩
theorem Bg{s3:Nat}{vv:Value}{v:List Int}(h:SX w K D F V g m Q jv T oj n N)(b1:Blk w s1 [.pointer (some ⟨g,0,none⟩)] 46)(o:Blk w s2 [kv] 29)(b3:Blk w s3 [vv] 29)(s:¬ F s1)(t:¬ F s2)(q:¬ F s3)(hk:By w kv k)(hv:By w vv v)(j:k.length<=1000000000)(l:v.length<=1000000000)(x:N<=100000000) :
  Calls Tryz.prog 206 #[.pointer (some ⟨s1,0,none⟩),.pointer (some ⟨s2,0,none⟩),.pointer (some ⟨s3,0,none⟩)] w λe w'=>e=.returned (.tuple #[])/\∃ F',SX w' (λb=>(K b/\¬ F b)\/F' b) (λb=>D b\/w.heap.size<=b) F' V g m (oF Q k v) jv T oj n (N+1)/\(∀ b,F' b->F b\/w.heap.size<=b)/\Chg F w w':=by
 have u:=Dw h.map.drew hk.drew hv.drew j l x
 have hS:Rds g m s1 s2 jv n kv w.drew/\Blk w.drew s3 [vv] 29:=⟨⟨b1.drew,h.blk.drew,o.drew⟩,b3.drew⟩
 have f:=aG h;clear h b1 o b3 hk hv;go_enter Tryz.func206,Tryz.ntmps206;refine cZ (S:=λw'=>Rds g m s1 s2 jv n kv w'/\Blk w' s3 [vv] 29) (by kernel_rfl) hS ?_
 refine aV 0 (some 3) (.pointer (some ⟨g,0,none⟩)) 46 0 s1 0 (λw' h=>xg (h.1.1.cell (i:=0) rfl)) hS ?_
 refine aI 1 4 (.pointer (some ⟨g,0,none⟩)) hS ?_
 refine aI 2 5 (.pointer (some ⟨g,0,none⟩)) hS ?_
 refine aV 3 (some 6) (.pointer (some ⟨m,0,none⟩)) 144 5 g 0 (λw' h=>sN (h.1.2.1.cell (i:=0) rfl)) hS ?_
 refine aV 4 (some 7) kv 29 1 s2 0 (λw' h=>tZ (h.1.2.2.cell (i:=0) rfl)) hS ?_
 refine aV 5 (some 8) vv 29 2 s3 0 (λw' h=>tZ (h.2.cell (i:=0) rfl)) hS ?_
 refine da 6 (some 9) 126 #[.pointer (some ⟨m,0,none⟩),kv,vv] u ?_
 rintro y r ⟨rfl,F',p,hF,c⟩;refine⟨_,rfl,⟨⟨hS.1.1.chg c s,hS.1.2.1.chg c f.out.own.lp,hS.1.2.2.chg c t⟩,hS.2.chg c q⟩,cn ?_⟩;simp only[Act.put,List.setIfInBounds_toArray,List.set_cons_zero,List.set_cons_succ];go_end0
 have d:Chg F w r:=⟨c.os,c.tape,c.output,c.size,c.same⟩
 exact⟨rfl,F',f.out.mapped (by have:=f.out.tot;have:=ku f.out.map.ord.flat k v;rw[eC f.out.map.ord];omega) p hF (λ_ h=>.inl h) d,hF,d⟩
theorem Gr{u:Und}(h:SX w K D F V g m Q jv T oj n N)(hC:mF w V D g u c)(d:N<=100000000)(p:Kv.tot T+Q.flatten.length+1<=N) :
  ∃ f cap,c=.func (.func f) #[] cap/\CP f cap w λe w'=>e=.returned (.tuple #[])/\∃ F' Q',SX w' (λb=>(K b/\¬ F b)\/F' b) (λb=>D b\/w.heap.size<=b) F' V g m Q' jv T oj n N/\Q'.flatten=oK Q.flatten u/\(∀ b,F' b->F b\/w.heap.size<=b)/\Chg F w w':=by
 obtain⟨s1,s2,kv,v1,v2,b1,a,ok,⟨e,rfl⟩ | ⟨s3,vv,x,i,j,o,e,rfl⟩⟩:=hC.ex
 ·refine⟨_,_,rfl,(AE h b1 a (h.own.kt _ v1) (h.own.kt _ v2) ok.by d).mono ?_⟩;rintro k w' ⟨he,F',hX,hF,hc⟩;refine⟨he,F',qu Q u.1,?_,?_,hF,hc⟩
  ·exact⟨hX.blk,hX.map.mono (λ_ _ h=>.inl h),hX.jn.mono (λ_ h=>h) (λ_ _ h=>.inl h),hX.tot,hX.len,hX.own⟩
  rw[fy h.map.ord];unfold oK;rw[e]
 refine⟨_,_,rfl,(Bg h b1 a j (h.own.kt _ v1) (h.own.kt _ v2) (h.own.kt _ i) ok.by o.by hC.short.1 (hC.short.2 x e) d).mono ?_⟩;rintro k w' ⟨he,F',hX,hF,hc⟩
 have l:Kv.tot T+(oF Q u.1 x).flatten.length<=N:=by have:=ku h.map.ord.flat u.1 x;rw[eC h.map.ord];omega
 refine⟨he,F',_,⟨hX.blk,Mp.fit hX.map (by omega),hX.jn,l,hX.len,hX.own⟩,?_,hF,hc⟩;rw[eC h.map.ord];unfold oK;rw[e]
end
section
variable {w:World}{D:Nat->Prop}{v:Value}{l:List Int}{cs:List Value}
theorem iu{w':World}{x:Nat}(hc:Chg (·=x) w w')(hx:Blk w x cs 29)(O:OB w D v l):OB w' D v l :=
 ⟨O.oct,O.ex.imp id (by
  rintro⟨b,c,e,d,a⟩;refine⟨b,c,e,d,a.chg hc (λg=>?_)⟩
  have e2:b=x:=g;subst e2;obtain⟨f,k⟩:=a.kind
  exact absurd (hx.eq k).2 (by decide))⟩
def Rst(w:World)(g:Nat)(k L:List Int)(there:Bool)(e:Ending)(w':World):Prop:=∃ s1 s2 s3 v1 v3,e=.returned (.func (.func (if there then 206 else 205)) #[] (if there then #[.pointer (some ⟨s1,0,none⟩),.pointer (some ⟨s2,0,none⟩),.pointer (some ⟨s3,0,none⟩)] else #[.pointer (some ⟨s1,0,none⟩),.pointer (some ⟨s2,0,none⟩)])) ∧
      w.heap.size≤s1∧w.heap.size≤s2∧w.heap.size≤s3∧Blk w' s1 [.pointer (some ⟨g,0,none⟩)] 46∧Blk w' s2 [v1] 29∧Blk w' s3 [v3] 29∧OB w' (w.heap.size≤·) v1 k∧OB w' (w.heap.size≤·) v3 L∧BW w w'
theorem qd{g m:Nat}{jv kv:Value}{n:Int}{k L:List Int}{there:Bool}(Q:Blk w g [.pointer (some ⟨m,0,none⟩),jv,.int .i64 n] 152)(hk:By w kv k)(P:k.length<=1000000000)(u:∀ w' kv',BW w w'->By w' kv' k->Calls Tryz.prog 71 #[.pointer (some ⟨m,0,none⟩),kv'] w' λe w''=>∃ v,e=.returned (.tuple #[v,.bool there])/\OB w'' (w'.heap.size <= ·) v L/\BW w' w'') :
  Calls Tryz.prog 160 #[.pointer (some ⟨g,0,none⟩),kv] w (Rst w g k L there):=by
 obtain⟨Y,c,rfl,-⟩:=id hk.ex;have b1:=ay w [.pointer (some ⟨g,0,none⟩)] 46;have al:=aa w (.cells #[.pointer (some ⟨g,0,none⟩)] 46)
 have V:(w.alloc (.cells #[.pointer (some ⟨g,0,none⟩)] 46)).heap.size=w.heap.size+1:=by simp
 have t1:=cW (hk.keep al) P;have K:=aG Q;have H:=aG u;have W:=Q.lt;clear u Q;generalize hln:k.length=t at *
 cases there
 ·go_enter Tryz.func160,Tryz.ntmps160;go_wp2_with (go_at_call 104;refine t1.mono ?_;rintro e s ⟨v1,rfl,o,D⟩;obtain⟨a1,c1,rfl⟩:∃ a1 c1,v1=.slice a1 k.length c1:=(by obtain⟨a1,c1,e,_⟩:=o.by.ex;exact⟨a1,c1,e⟩));rw[hln] at o;have R:=D.size;have A:=aa s (.cells #[.slice a1 t c1] 29)
  have hS:Rds g m w.heap.size s.heap.size jv n (.slice a1 t c1) (s.alloc (.cells #[.slice a1 t c1] 29)).drew:=⟨((b1.keep D).keep A).drew,(((K.out.keep al).keep D).keep A).drew,(ay s [.slice a1 t c1] 29).drew⟩
  have F:BW w (s.alloc (.cells #[.slice a1 t c1] 29)).drew:=ae (ae (ae al D) A) ⟨rfl,rfl,rfl,Nat.le_refl _,λ_ _=>rfl⟩
  have O:s.heap.size < (s.alloc (.cells #[.slice a1 t c1] 29)).drew.heap.size:=by show _ < (s.alloc _).heap.size;simp
  replace o:=((o.mono (D':=(w.heap.size <= ·)) (λb _ h=>by omega)).keep A).keep (w':=(s.alloc (.cells #[.slice a1 t c1] 29)).drew) ⟨rfl,rfl,rfl,Nat.le_refl _,λ_ _=>rfl⟩;clear t1 A b1 al;clear D;refine cZ (S:=Rds g m w.heap.size s.heap.size jv n (.slice a1 t c1)) (by kernel_rfl) hS ?_
  generalize (s.alloc (.cells #[.slice a1 t c1] 29)).drew=X at *;refine aV 0 (some 11) (.pointer (some ⟨g,0,none⟩)) 46 2 w.heap.size 0 (λw' h=>xg (h.1.cell (i:=0) rfl)) hS ?_
  refine aI 1 12 (.pointer (some ⟨g,0,none⟩)) hS ?_
  refine aI 2 13 (.pointer (some ⟨g,0,none⟩)) hS ?_
  refine aV 3 (some 14) (.pointer (some ⟨m,0,none⟩)) 144 13 g 0 (λw' h=>sN (h.2.1.cell (i:=0) rfl)) hS ?_
  refine aV 4 (some 15) (.slice a1 t c1) 29 5 s.heap.size 0 (λw' h=>tZ (h.2.2.cell (i:=0) rfl)) hS ?_
  have C:=aa X (.cells #[.slice none 0 0] 29);refine aQ [5,9] (wI 5 (some 16) 71 #[.pointer (some ⟨m,0,none⟩),.slice a1 t c1] (H.out _ _ F o.by) ?_ (bU 9 (some 6) (.pointer (some ⟨X.heap.size,0,none⟩)) (X.alloc (.cells #[.slice none 0 0] 29)) (by kernel_rfl) (hS.keep C) ?_ aY))
  ·rintro T y ⟨J,rfl,z,x⟩;obtain⟨a3,c3,rfl⟩:∃ a3 c3,J=.slice a3 L.length c3:=(by obtain⟨a3,c3,e,_⟩:=z.by.ex;exact⟨a3,c3,e⟩)
   refine⟨_,rfl,hS.keep x,?_⟩;replace hS:=hS.keep x;replace o:=o.keep x;generalize L.length=p at *;refine aI 6 10 (.tuple #[.slice a3 p c3,.bool false]) hS ?_
   refine aI 7 17 (.slice a3 p c3) hS ?_
   refine aI 8 18 (.bool false) hS ?_
   have BW:=ae F x;have U:=x.size;refine aQ [9] (bU 9 (some 6) (.pointer (some ⟨y.heap.size,0,none⟩)) (y.alloc (.cells #[.slice none 0 0] 29)) (by kernel_rfl) (hS.keep (aa y _)) ?_ aY);have G:=aa y (.cells #[.slice none 0 0] 29);replace hS:=hS.keep G;replace o:=o.keep G;replace z:=(z.mono (D':=(w.heap.size <= ·)) (λb _ h=>by have N:X.heap.size<=b:=h;omega)).keep G;have q:=ay y [.slice none 0 0] 29;replace BW:=ae BW G;have j:=q.cell (i:=0) rfl;have f:=q.free 0
   have r:Chg (·=y.heap.size) (y.alloc (.cells #[.slice none 0 0] 29)) ((y.alloc (.cells #[.slice none 0 0] 29)).setCell ⟨y.heap.size,0,none⟩ (.slice a3 p c3)):=(Chg.refl (·=y.heap.size) (y.alloc (.cells #[.slice none 0 0] 29))).cell (.inl rfl) _
   have l:Rds g m w.heap.size s.heap.size jv n (.slice a1 t c1) ((y.alloc (.cells #[.slice none 0 0] 29)).setCell ⟨y.heap.size,0,none⟩ (.slice a3 p c3)):=⟨hS.1.chg r (by omega),hS.2.1.chg r (by omega),hS.2.2.chg r (by omega)⟩
   refine aQ [10] (dy 10 ((y.alloc (.cells #[.slice none 0 0] 29)).setCell ⟨y.heap.size,0,none⟩ (.slice a3 p c3)) (mo 6 17 (by kernel_rfl) (by kernel_rfl) (by kernel_rfl) j f) l ?_ aY);refine aI 11 7 (.bool false) l ?_
   refine cn ?_
   simp only[Act.put,List.setIfInBounds_toArray,List.set_cons_zero,List.set_cons_succ];have d:=aG (And.intro (q.setCell (i:=0) (.slice a3 p c3)) (And.intro (iu r q z) (And.intro (iu r q o) (And.intro l (BW.trans (r.below (B:=w.heap.size) (λb e=>by omega) BW.size))))));have I:=aG (show w.heap.size<=y.heap.size by omega);clear j f r q z hS C o BW l H F K;generalize (y.alloc (.cells #[.slice none 0 0] 29)).setCell ⟨y.heap.size,0,none⟩ (.slice a3 p c3)=Z at *;go_wp2;go_ret;exact⟨_,_,_,_,_,rfl,Nat.le_refl _,by omega,I.out,d.out.2.2.2.1.1,d.out.2.2.2.1.2.2,d.out.1,d.out.2.2.1,d.out.2.1,d.out.2.2.2.2⟩
  replace hS:=hS.keep C;replace o:=o.keep C;have E:=ae F C;have q:=ay X [.slice none 0 0] 29
  have M:X.heap.size < (X.alloc (.cells #[.slice none 0 0] 29)).heap.size:=by simp
  refine da 5 (some 16) 71 #[.pointer (some ⟨m,0,none⟩),.slice a1 t c1] (H.out _ _ E o.by) ?_
  rintro T y ⟨J,rfl,z,x⟩;obtain⟨a3,c3,rfl⟩:∃ a3 c3,J=.slice a3 L.length c3:=(by obtain⟨a3,c3,e,_⟩:=z.by.ex;exact⟨a3,c3,e⟩)
  refine⟨_,rfl,hS.keep x,?_⟩;replace hS:=hS.keep x;replace o:=o.keep x;generalize L.length=p at *;refine aI 6 10 (.tuple #[.slice a3 p c3,.bool false]) hS ?_
  refine aI 7 17 (.slice a3 p c3) hS ?_
  refine aI 8 18 (.bool false) hS ?_
  have BW:=ae E x;replace q:=q.keep x;replace z:=z.mono (D':=(w.heap.size <= ·)) (λb _ h=>by have N:(X.alloc (.cells #[.slice none 0 0] 29)).heap.size<=b:=h;omega);have j:=q.cell (i:=0) rfl;have f:=q.free 0
  have r:Chg (·=X.heap.size) (y) ((y).setCell ⟨X.heap.size,0,none⟩ (.slice a3 p c3)):=(Chg.refl (·=X.heap.size) (y)).cell (.inl rfl) _
  have l:Rds g m w.heap.size s.heap.size jv n (.slice a1 t c1) ((y).setCell ⟨X.heap.size,0,none⟩ (.slice a3 p c3)):=⟨hS.1.chg r (by omega),hS.2.1.chg r (by omega),hS.2.2.chg r (by omega)⟩
  refine aQ [10] (dy 10 ((y).setCell ⟨X.heap.size,0,none⟩ (.slice a3 p c3)) (mo 6 17 (by kernel_rfl) (by kernel_rfl) (by kernel_rfl) j f) l ?_ aY);refine aI 11 7 (.bool false) l ?_
  refine cn ?_
  simp only[Act.put,List.setIfInBounds_toArray,List.set_cons_zero,List.set_cons_succ];have d:=aG (And.intro (q.setCell (i:=0) (.slice a3 p c3)) (And.intro (iu r q z) (And.intro (iu r q o) (And.intro l (BW.trans (r.below (B:=w.heap.size) (λb e=>by omega) BW.size))))));have I:=aG (show w.heap.size<=X.heap.size by omega);clear j f r q z hS C o BW l H F K;generalize (y).setCell ⟨X.heap.size,0,none⟩ (.slice a3 p c3)=Z at *;go_wp2;go_ret;exact⟨_,_,_,_,_,rfl,Nat.le_refl _,by omega,I.out,d.out.2.2.2.1.1,d.out.2.2.2.1.2.2,d.out.1,d.out.2.2.1,d.out.2.1,d.out.2.2.2.2⟩
 go_enter Tryz.func160,Tryz.ntmps160;go_wp2_with (go_at_call 104;refine t1.mono ?_;rintro e s ⟨v1,rfl,o,D⟩;obtain⟨a1,c1,rfl⟩:∃ a1 c1,v1=.slice a1 k.length c1:=(by obtain⟨a1,c1,e,_⟩:=o.by.ex;exact⟨a1,c1,e⟩));rw[hln] at o;have R:=D.size;have A:=aa s (.cells #[.slice a1 t c1] 29)
 have hS:Rds g m w.heap.size s.heap.size jv n (.slice a1 t c1) (s.alloc (.cells #[.slice a1 t c1] 29)).drew:=⟨((b1.keep D).keep A).drew,(((K.out.keep al).keep D).keep A).drew,(ay s [.slice a1 t c1] 29).drew⟩
 have F:BW w (s.alloc (.cells #[.slice a1 t c1] 29)).drew:=ae (ae (ae al D) A) ⟨rfl,rfl,rfl,Nat.le_refl _,λ_ _=>rfl⟩
 have O:s.heap.size < (s.alloc (.cells #[.slice a1 t c1] 29)).drew.heap.size:=by show _ < (s.alloc _).heap.size;simp
 replace o:=((o.mono (D':=(w.heap.size <= ·)) (λb _ h=>by omega)).keep A).keep (w':=(s.alloc (.cells #[.slice a1 t c1] 29)).drew) ⟨rfl,rfl,rfl,Nat.le_refl _,λ_ _=>rfl⟩;clear t1 A b1 al;clear D;refine cZ (S:=Rds g m w.heap.size s.heap.size jv n (.slice a1 t c1)) (by kernel_rfl) hS ?_
 generalize (s.alloc (.cells #[.slice a1 t c1] 29)).drew=X at *;refine aV 0 (some 11) (.pointer (some ⟨g,0,none⟩)) 46 2 w.heap.size 0 (λw' h=>xg (h.1.cell (i:=0) rfl)) hS ?_
 refine aI 1 12 (.pointer (some ⟨g,0,none⟩)) hS ?_
 refine aI 2 13 (.pointer (some ⟨g,0,none⟩)) hS ?_
 refine aV 3 (some 14) (.pointer (some ⟨m,0,none⟩)) 144 13 g 0 (λw' h=>sN (h.2.1.cell (i:=0) rfl)) hS ?_
 refine aV 4 (some 15) (.slice a1 t c1) 29 5 s.heap.size 0 (λw' h=>tZ (h.2.2.cell (i:=0) rfl)) hS ?_
 have C:=aa X (.cells #[.slice none 0 0] 29);refine aQ [5,9] (wI 5 (some 16) 71 #[.pointer (some ⟨m,0,none⟩),.slice a1 t c1] (H.out _ _ F o.by) ?_ (bU 9 (some 6) (.pointer (some ⟨X.heap.size,0,none⟩)) (X.alloc (.cells #[.slice none 0 0] 29)) (by kernel_rfl) (hS.keep C) ?_ aY))
 ·rintro T y ⟨J,rfl,z,x⟩;obtain⟨a3,c3,rfl⟩:∃ a3 c3,J=.slice a3 L.length c3:=(by obtain⟨a3,c3,e,_⟩:=z.by.ex;exact⟨a3,c3,e⟩)
  refine⟨_,rfl,hS.keep x,?_⟩;replace hS:=hS.keep x;replace o:=o.keep x;generalize L.length=p at *;refine aI 6 10 (.tuple #[.slice a3 p c3,.bool true]) hS ?_
  refine aI 7 17 (.slice a3 p c3) hS ?_
  refine aI 8 18 (.bool true) hS ?_
  have BW:=ae F x;have U:=x.size;refine aQ [9] (bU 9 (some 6) (.pointer (some ⟨y.heap.size,0,none⟩)) (y.alloc (.cells #[.slice none 0 0] 29)) (by kernel_rfl) (hS.keep (aa y _)) ?_ aY);have G:=aa y (.cells #[.slice none 0 0] 29);replace hS:=hS.keep G;replace o:=o.keep G;replace z:=(z.mono (D':=(w.heap.size <= ·)) (λb _ h=>by have N:X.heap.size<=b:=h;omega)).keep G;have q:=ay y [.slice none 0 0] 29;replace BW:=ae BW G;have j:=q.cell (i:=0) rfl;have f:=q.free 0
  have r:Chg (·=y.heap.size) (y.alloc (.cells #[.slice none 0 0] 29)) ((y.alloc (.cells #[.slice none 0 0] 29)).setCell ⟨y.heap.size,0,none⟩ (.slice a3 p c3)):=(Chg.refl (·=y.heap.size) (y.alloc (.cells #[.slice none 0 0] 29))).cell (.inl rfl) _
  have l:Rds g m w.heap.size s.heap.size jv n (.slice a1 t c1) ((y.alloc (.cells #[.slice none 0 0] 29)).setCell ⟨y.heap.size,0,none⟩ (.slice a3 p c3)):=⟨hS.1.chg r (by omega),hS.2.1.chg r (by omega),hS.2.2.chg r (by omega)⟩
  refine aQ [10] (dy 10 ((y.alloc (.cells #[.slice none 0 0] 29)).setCell ⟨y.heap.size,0,none⟩ (.slice a3 p c3)) (mo 6 17 (by kernel_rfl) (by kernel_rfl) (by kernel_rfl) j f) l ?_ aY);refine aI 11 7 (.bool true) l ?_
  refine cn ?_
  simp only[Act.put,List.setIfInBounds_toArray,List.set_cons_zero,List.set_cons_succ];have d:=aG (And.intro (q.setCell (i:=0) (.slice a3 p c3)) (And.intro (iu r q z) (And.intro (iu r q o) (And.intro l (BW.trans (r.below (B:=w.heap.size) (λb e=>by omega) BW.size))))));have I:=aG (show w.heap.size<=y.heap.size by omega);clear j f r q z hS C o BW l H F K;generalize (y.alloc (.cells #[.slice none 0 0] 29)).setCell ⟨y.heap.size,0,none⟩ (.slice a3 p c3)=Z at *;go_wp2;go_ret;exact⟨_,_,_,_,_,rfl,Nat.le_refl _,by omega,I.out,d.out.2.2.2.1.1,d.out.2.2.2.1.2.2,d.out.1,d.out.2.2.1,d.out.2.1,d.out.2.2.2.2⟩
 replace hS:=hS.keep C;replace o:=o.keep C;have E:=ae F C;have q:=ay X [.slice none 0 0] 29
 have M:X.heap.size < (X.alloc (.cells #[.slice none 0 0] 29)).heap.size:=by simp
 refine da 5 (some 16) 71 #[.pointer (some ⟨m,0,none⟩),.slice a1 t c1] (H.out _ _ E o.by) ?_
 rintro T y ⟨J,rfl,z,x⟩;obtain⟨a3,c3,rfl⟩:∃ a3 c3,J=.slice a3 L.length c3:=(by obtain⟨a3,c3,e,_⟩:=z.by.ex;exact⟨a3,c3,e⟩)
 refine⟨_,rfl,hS.keep x,?_⟩;replace hS:=hS.keep x;replace o:=o.keep x;generalize L.length=p at *;refine aI 6 10 (.tuple #[.slice a3 p c3,.bool true]) hS ?_
 refine aI 7 17 (.slice a3 p c3) hS ?_
 refine aI 8 18 (.bool true) hS ?_
 have BW:=ae E x;replace q:=q.keep x;replace z:=z.mono (D':=(w.heap.size <= ·)) (λb _ h=>by have N:(X.alloc (.cells #[.slice none 0 0] 29)).heap.size<=b:=h;omega);have j:=q.cell (i:=0) rfl;have f:=q.free 0
 have r:Chg (·=X.heap.size) (y) ((y).setCell ⟨X.heap.size,0,none⟩ (.slice a3 p c3)):=(Chg.refl (·=X.heap.size) (y)).cell (.inl rfl) _
 have l:Rds g m w.heap.size s.heap.size jv n (.slice a1 t c1) ((y).setCell ⟨X.heap.size,0,none⟩ (.slice a3 p c3)):=⟨hS.1.chg r (by omega),hS.2.1.chg r (by omega),hS.2.2.chg r (by omega)⟩
 refine aQ [10] (dy 10 ((y).setCell ⟨X.heap.size,0,none⟩ (.slice a3 p c3)) (mo 6 17 (by kernel_rfl) (by kernel_rfl) (by kernel_rfl) j f) l ?_ aY);refine aI 11 7 (.bool true) l ?_
 refine cn ?_
 simp only[Act.put,List.setIfInBounds_toArray,List.set_cons_zero,List.set_cons_succ];have d:=aG (And.intro (q.setCell (i:=0) (.slice a3 p c3)) (And.intro (iu r q z) (And.intro (iu r q o) (And.intro l (BW.trans (r.below (B:=w.heap.size) (λb e=>by omega) BW.size))))));have I:=aG (show w.heap.size<=X.heap.size by omega);clear j f r q z hS C o BW l H F K;generalize (y).setCell ⟨X.heap.size,0,none⟩ (.slice a3 p c3)=Z at *;go_wp2;go_ret;exact⟨_,_,_,_,_,rfl,Nat.le_refl _,by omega,I.out,d.out.2.2.2.1.1,d.out.2.2.2.1.2.2,d.out.1,d.out.2.2.1,d.out.2.1,d.out.2.2.2.2⟩
end
end Kv
end
section
namespace Kv
open Go.RowKit Go.Lib Pg
section
variable {w:World} {b n c i:Nat} {xs:List Value}
theorem Dg (R:Rw w 265 1 b n c xs) (hi:i < n) (o:c≠i+1) (h1:∀ v ∈ xs,v.oneCell'=true) :
    Calls Tryz.prog 218 #[.slice (some ⟨b,0,none⟩) n c,.int .i64 i,.int .i64 (i+1)] w λe w'=>e=.returned (.slice (some ⟨b,0,none⟩) (n - 1) c)∧Rw w' 265 1 b (n - 1) c (xs.take (i * 1) ++ xs.drop ((i+1) * 1))∧Chg (·=b) w w':=by
  have hx:=R.len;have d:=R.le;simp only[maxLen] at d;have x:=d.1;have s:=d.2
  have l:(xs.drop ((i+1) * 1)).length=(n - (i+1)) * 1:=by rw[List.length_drop,hx];omega
  obtain⟨M,g,p,y⟩:= gw KJ 145 (R.drew.front (m:=i) (by omega)) ⟨b,i+1,none⟩ (n - (i+1)) (c - (i+1)) (xs.drop ((i+1) * 1)) l
    (λj v t => by
      rw[List.getElem?_drop] at t;rw[Addr.add_lit]
      exact R.drew.cell (by simpa using t)) (λv hv=>h1 v (List.mem_of_mem_drop hv)) (by omega)
  rw[show i+(n - (i+1))=n - 1 by omega] at p;obtain⟨D,f,r,u⟩:= fA KJ 0 p (n - (n - 1)) (c - (n - 1))
  have J:Chg (·=b) w D:=((Chg.refl _ w).drew.trans y (λ_ _ h=>h)).trans u (λ_ _ h=>h);obtain⟨q,hq⟩:∃ q,n=i+1+q:=⟨n - (i+1),by omega⟩;subst hq;rw[show i+1+q - (i+1)=q by omega] at g;rw[show i+1+q - 1=i+q by omega] at f r ⊢;simp only[Nat.mul_one] at f
  have C:¬ ((i:Int)=(i:Int)+1):=by omega
  have H:i≤i+1+q:=by omega
  have I:¬ (c=i+1):=o
  have L:(0:Int)≤(i:Int)+1:=by omega
  have G:i≤c:=by omega
  have A:((i:Int)+1).toNat=i+1:=by omega
  have B:¬ (c=i+q):=by omega
  have K:(i:Int)+1≤((i+1+q:Nat):Int):=by omega
  have E:i+1≤i+1+q:=by omega
  have z:(i:Int)+1≤(i:Int)+1+(q:Int):=by omega
  have F:((i+1+q:Nat):Int)≤(c:Int):=by omega
  clear d R p y u l h1;have mixed:=mixed;go_enter Tryz.func218,Tryz.ntmps218;go_wp2;go_region_law_o (refine gC rfl (.tmp 22) (.tmp 25) 145 145 rfl _ _ (by simp[Act.eval,Act.put]) (by simp[Act.eval,Act.put]) g ?_);go_wp2;go_ret;exact⟨rfl,r,J⟩
theorem yP (R:Rw w 265 1 b (i+1) (i+1) xs) :
  Calls Tryz.prog 218 #[.slice (some ⟨b,0,none⟩) (i+1) (i+1),.int .i64 i,.int .i64 (i+1)] w λe w'=>e=.returned (.slice (some ⟨b,0,none⟩) i (i+1))/\Rw w' 265 1 b i (i+1) (xs.take (i * 1))/\Chg (·=b) w w':=by
 have c:=R.le;simp only[maxLen] at c;have n:=c.2;obtain⟨A,d,f,o⟩:=gw KJ 145 (R.drew.front (m:=i) (by omega)) ⟨b,0,none⟩ 0 0 [] (by simp) (λj v y=>by simp at y) (λv hv=>by simp at hv) (by omega);rw[Nat.add_zero] at f d;rw[List.append_nil] at f;obtain⟨u,g,p,l⟩:=fA KJ 0 f 1 1
 have x:Chg (·=b) w u:=((Chg.refl _ w).drew.trans o (λ_ _ h=>h)).trans l (λ_ _ h=>h);simp only[Nat.mul_one] at g
 have r:¬ ((i:Int)=(i:Int)+1):=by omega
 have s:i<=i+1:=by omega
 have z:(0:Int)<=(i:Int)+1:=by omega
 have q:((i:Int)+1).toNat=i+1:=by omega
 have e1:i+1 - i=1:=by omega
 have t:(i:Int)<=(i:Int)+1:=by omega
 clear c R f o l;have mixed:=mixed;go_enter Tryz.func218,Tryz.ntmps218;go_wp2;go_region_law_o (refine gC rfl (.tmp 22) (.tmp 25) 145 145 rfl _ _ (by simp[Act.eval,Act.put]) (by simp[Act.eval,Act.put]) d ?_);go_wp2;go_ret;exact⟨rfl,p,x⟩
theorem delJ (R:Rw w 265 1 b n c xs) (hi:i < n) (h1:∀ v∈xs,v.oneCell'=true) :
  CP 218 #[.slice (some ⟨b,0,none⟩) n c,.int .i64 i,.int .i64 (i+1)] w λe w'=>e=.returned (.slice (some ⟨b,0,none⟩) (n - 1) c)/\Rw w' 265 1 b (n - 1) c (xs.take (i * 1) ++ xs.drop ((i+1) * 1))/\Chg (·=b) w w':=by
 by_cases h:c=i+1
 ·have f:=R.le;obtain rfl:n=i + 1:=by omega
  subst h;refine(yP R).mono ?_
  rintro e w' ⟨rfl,d,a⟩;exact⟨by simp,d.to (by rw[List.drop_of_length_le (by rw[R.len];omega),List.append_nil]),a⟩
 exact Dg R hi h h1
end
end Kv
end
section
namespace Kv
open Go.RowKit Go.Lib Pg
attribute [local go_sem] Oper.semAt_some
section
variable {w:World}{V D:Nat->Prop}{g:Nat}{j:Jr}{cs':List Value}{bv jv:Value}{l:List Nat}{o:Option Nat}{Q:List (List KV)}{T0:List Jr}
theorem sI(ao:Option Addr)(n c:Nat)(hn:n<=c)(bo:Option Addr)(c':Nat):(Builtin.append_ #[263,263] 263 #[.slice ao n c,.slice bo 0 c']).run Tryz.prog w=.ok (.slice ao n c) w:=by
 obtain⟨i,hi,d,e,hb⟩:=info_parts KF.inf;have:(Builtin.firstCells i.size 0 (.slice bo 0 c')).run Tryz.prog w=.ok #[] w:=by
  cases bo with
  | none=>rfl
  | some a=>exact run_firstCells_some w i.size 0 a 0 c' [] (by simp) (λj v b=>by simp at b)
 cases ao with
 | none=>simp[Builtin.append_,run_underlying KF.und,sizeOf,typeInfo,hi,Builtin.lenOf,this,hn]
 | some a=>simp[Builtin.append_,run_underlying KF.und,sizeOf,typeInfo,hi,Builtin.lenOf,this,hn,storeCells]
def FD(w:World)(bv:Value)(cs:List Value):Prop:=(bv=.slice none 0 0/\cs=[])\/∃ a c,bv=.slice (some a) cs.length c/\∀ i x,cs[i]?=some x->w.cell? (a.add i)=some x
theorem AN{t:List Und}(I:JrA w V D g j)(hC:fj w V D g t cs')(hb:FD w bv cs')(hlen:j.U.length+t.length<=1000000000) :
  ∃ v' o' w',(Builtin.append_ #[263,263] 263 #[j.v,bv]).run Tryz.prog w=.ok v' w'/\(∃ ao n c,v'=.slice ao n c)/\JrA w' V D g ⟨j.U ++ t,v',o'⟩/\(∀ b,o'=some b->j.o=some b\/b=w.heap.size)/\Chg (λb=>j.o=some b) w w':=by
 obtain⟨cs,hc,F⟩:=I;have d:=hC.1;by_cases y:t=[]
 ·subst y
  have p:cs'=[]:=List.eq_nil_of_length_eq_zero (by rw[d];rfl);subst p;obtain⟨u,l,rfl⟩:∃ u l,bv=.slice u 0 l:=by
   rcases hb with⟨e,_⟩ | ⟨a,c,e,_⟩
   ·exact⟨none,0,e⟩
   exact⟨some a,c,e⟩
  rcases F with⟨e1,e2,e3⟩ | ⟨b,c,e1,e2,hR⟩
  ·refine⟨_,j.o,w,by rw[e2];exact sI none 0 0 (Nat.le_refl _) u l,⟨none,0,0,rfl⟩,⟨cs,by simpa using hc,.inl ⟨e1,rfl,by simpa using e3⟩⟩,λb h=>.inl h,Chg.refl _ _⟩
  refine⟨_,j.o,w,by rw[e2];exact sI _ _ _ hR.le.1 u l,⟨_,_,_,rfl⟩,⟨cs,by simpa using hc,.inr ⟨b,c,e1,by simp,by simpa using hR⟩⟩,λb h=>.inl h,Chg.refl _ _⟩
 obtain⟨a,ca,rfl,f⟩:∃ a c,bv=.slice (some a) cs'.length c/\∀ i x,cs'[i]?=some x->w.cell? (a.add i)=some x:=by
  rcases hb with⟨_,e⟩ | h
  ·rw[e] at d;exact absurd (List.eq_nil_of_length_eq_zero d.symm) y
  exact h
 have r:0 < cs'.length:=by rw[d];exact List.length_pos_iff.2 y
 rcases F with⟨e1,e2,e3⟩ | ⟨b,c,e1,e2,hR⟩
 ·have p:cs=[]:=List.eq_nil_of_length_eq_zero (by rw[hc.1,e3];rfl);subst p;obtain⟨l,W,A,m,C⟩:=gN (w:=w) KF 263 a cs'.length ca cs' (by simp) f (h0:=r) (hbig:=by omega) (hm:=by omega);refine⟨_,some w.heap.size,W,by rw[e2];exact A,⟨_,_,_,rfl⟩,⟨cs',?_,.inr ⟨_,l,rfl,by rw[e3,d];rfl,by rw[e3];simpa[d] using m⟩⟩,λb h=>.inr (by cases h;rfl),Chg.of C⟩;rw[e3];exact hC.stay ⟨λb _ _ _ k _=>C.block b k.lt,λb H _ _=>C.block b H⟩
 obtain⟨E,l,W,A,B,m,s⟩:=dW KF 263 hR a cs'.length ca cs' (by simp) f hC.one;obtain⟨G,z⟩:=hR.kind
 have q:jA V D w W:=l9 z s;refine⟨_,some E,W,by rw[e2];exact A,⟨_,_,_,rfl⟩,⟨cs ++ cs',(hc.stay q).app (hC.stay q),.inr ⟨E,l,rfl,by simp[d],by simpa[d] using m⟩⟩,λx h=>?_,s.mono (λx _ e=>by have J:x=b:=e;rw[J,e1])⟩
 cases h;rcases B with e | e
 ·exact .inl (by rw[e1,e])
 exact .inr e
theorem gu(T0:List Jr)(j:Jr):tot (T0 ++ [j])=tot T0+j.U.length:=by simp[tot]
theorem jg:(l ++ o.toList).Nodup ↔ l.Nodup∧∀ b,o=some b→b ∉ l:=by
  cases o with
  | none=>simp
  | some x => simp[List.nodup_append]; intro _; constructor
              · intro h hx;exact h x hx rfl
              · intro h a c e;subst e;exact h c
theorem mC(T0:List Jr)(j:Jr):(T0 ++ [j]).filterMap Jr.o=T0.filterMap Jr.o ++ j.o.toList:=by
 rw[List.filterMap_append];congr 1
theorem SX.inner{s:World}{K F:Nat->Prop}{m r:Nat}{j':Jr}{n N N':Nat}(h:SX w K D F V g m Q jv (T0 ++ [j]) (some r) n N)(C:JrA s V D g j')(ho:∀ b,j'.o=some b->j.o=some b\/w.heap.size<=b)(G:N<=N')(ht:Kv.tot (T0 ++ [j'])+Q.flatten.length<=N')(q:∃ c,jv=.slice (some ⟨r,0,none⟩) (T0 ++ [j]).length c/\Rw s 265 1 r (T0 ++ [j]).length c ((T0 ++ [j']).map Jr.v))(hc:Chg (λb=>j.o=some b\/b=r) w s) :
  SX s (λb=>(K b/\¬ j.o=some b)\/j'.o=some b) D F V g m Q jv (T0 ++ [j']) (some r) n N':=by
 have f:j∈T0 ++ [j]:=by simp
 have hx:∀ b cs t,Blk w b cs t->t≠1->t≠265->s.heap[b]? = w.heap[b]? := λb cs t k p y=>hc.same b k.lt (λe=>by
  rcases e with e | e
  ·obtain⟨l,i⟩:=(h.jn.each j f).kind e;exact p (k.eq i).2
  subst e;obtain⟨l,i⟩:=h.jn.kind rfl
  exact y (k.eq i).2)
 have z:∀ b,(j.o=some b\/b=r)->¬ F b:=λb e=>e.elim (h.own.l5 j f b) (λe=>by subst e;exact h.own.mP _ rfl)
 have x:jA V D w s:=⟨λb cs t _ k ht=>hx b cs t k (by rcases ht with e | e<;>subst e<;>decide) (by rcases ht with e | e<;>subst e<;>decide),λb _ _ k=>by obtain⟨cs,k⟩:=k;exact hx b cs _ k (by decide) (by decide)⟩
 have u:∀ t∈T0 ++ [j],∀ b,t.o=some b->b < w.heap.size:=λt ht b e=>by obtain⟨cs,k⟩:=(h.jn.each t ht).kind e;exact k.lt
 have d:=h.jn.apart;rw[mC,jg] at d;refine⟨⟨by rw[hx g _ _ h.blk (by decide) (by decide)];exact h.blk.blk⟩,h.map.same (λb hF=>hc.same b (h.map.lt hF) (λe=>z b e hF)) (λb _ _ k=>by obtain⟨cs,k⟩:=k;exact hx b cs _ k (by decide) (by decide)) |>.more G,⟨?_,?_,?_⟩,ht,by have:=h.len;simp at this ⊢;omega,?_⟩
 ·obtain⟨c,e,A⟩:=q;exact .inr ⟨r,c,rfl,by rw[e];simp,by simpa using A⟩
 ·intro t ht;rcases List.mem_append.1 ht with a | a
  ·refine(h.jn.each t (List.mem_append_left _ a)).stay x (λb e => ?_);refine hc.same b (u t (List.mem_append_left _ a) b e) (λe2 => ?_);rcases e2 with e2 | e2
   ·exact d.2 b e2 (List.mem_filterMap.2 ⟨t,a,e⟩)
   subst e2;obtain⟨cs,k⟩:=(h.jn.each t (List.mem_append_left _ a)).kind e;obtain⟨l,i⟩:=h.jn.kind rfl;exact absurd (k.eq i).2 (by decide)
  simp at a;subst a;exact C
 ·rw[mC,jg];refine⟨d.1,λb e hm => ?_⟩;rcases ho b e with p | p
  ·exact d.2 b p hm
  obtain⟨t,y,E⟩:=List.mem_filterMap.1 hm;have:=u t (List.mem_append_left _ y) b E;omega
 have B:∀ b cs t,Blk w b cs t->t≠1->¬ j.o=some b:=λb cs t k p e=>by
  obtain⟨l,i⟩:=(h.jn.each j f).kind e;exact p (k.eq i).2
 refine⟨.inl ⟨h.own.top,B g _ _ h.blk (by decide)⟩,λb hb=>.inl ⟨h.own.map b hb,λe=>h.own.l5 j f b e hb⟩,λb hb => ?_,λb hb => ?_,λt ht b e => ?_,λb hb => ?_,h.own.lp,h.own.kt,h.own.mP,λt ht b e => ?_,λb hv=>by
  obtain⟨cs,t,k,ht⟩:=h.own.vk b hv
  exact⟨cs,t,k.same (x.var b cs t hv k ht),ht⟩⟩
 ·obtain⟨cs,t,k,ht⟩:=h.own.vk b hb;exact .inl ⟨h.own.var b hb,B b cs t k (by rcases ht with e | e<;>subst e<;>decide)⟩
 ·cases hb;obtain⟨l,i⟩:=h.jn.kind rfl;exact .inl ⟨h.own.jrn _ rfl,B _ _ _ i (by decide)⟩
 ·rcases List.mem_append.1 ht with a | a
  ·exact .inl ⟨h.own.bck t (List.mem_append_left _ a) b e,λe2=>d.2 b e2 (List.mem_filterMap.2 ⟨t,a,e⟩)⟩
  simp at a;subst a;exact .inr e
 ·rcases hb with⟨hb,hn⟩ | hb
  ·by_cases e:b=r
   ·subst e;obtain⟨c,_,A⟩:=q;obtain⟨cs,k⟩:=A.kind;exact⟨cs,_,k,by decide⟩
   obtain⟨cs,t,k,ht⟩:=h.own.kind b hb;exact⟨cs,t,k.chg hc (λe2=>e2.elim hn e),ht⟩
  obtain⟨cs,k⟩:=C.kind hb;exact⟨cs,_,k,by decide⟩
 rcases List.mem_append.1 ht with a | a
 ·exact h.own.l5 t (List.mem_append_left _ a) b e
 simp at a; subst a;rcases ho b e with p | p
 ·exact h.own.l5 j f b p
 intro hF;have:=h.map.lt hF;omega
end
section
variable {w:World}{V D:Nat->Prop}{g:Nat}{jv bv:Value}{T0:List Jr}{j:Jr}{oj:Option Nat}{Q:List (List KV)}{cs':List Value}
theorem xQ(T0:List Jr)(j j':Jr):((T0 ++ [j]).map Jr.v).set T0.length j'.v=(T0 ++ [j']).map Jr.v:=by
 rw[List.map_append,List.map_append,List.set_append_right _ _ (by simp)];simp
theorem JnA.last(h:JnA w V D g jv (T0 ++ [j]) oj):∃ jb c,oj=some jb/\jv=.slice (some ⟨jb,0,none⟩) (T0.length+1) c/\Rw w 265 1 jb (T0.length+1) c ((T0 ++ [j]).map Jr.v):=by
 rcases h.row with⟨_,_,e⟩ | ⟨b,c,e1,e2,hR⟩
 ·exact absurd e (by simp)
 exact⟨b,c,e1,by rw[e2];simp,by simpa using hR⟩
theorem GX{K F:Nat->Prop}{m:Nat}{n N:Nat}{r:List Und}(h:SX w K D F V g m Q jv (T0 ++ [j]) oj n N)(hC:fj w V D g r cs')(hb:FD w bv cs'){N':Nat}(X:N<=N')(B:Kv.tot (T0 ++ [j])+r.length+Q.flatten.length<=N')(hN3:N'<=1000000000) :
  Calls Tryz.prog 159 #[.pointer (some ⟨g,0,none⟩),bv] w λe w'=>e=.returned (.tuple #[])/\∃ K' j',j'.U=j.U ++ r/\SX w' K' D F V g m Q jv (T0 ++ [j']) oj n N'/\(∀ b,K' b->K b\/w.heap.size<=b)/\Chg K w w':=by
 have hlen:j.U.length+r.length<=1000000000:=by rw[gu] at B;omega
 obtain⟨f,c,rfl,rfl,G⟩:=h.jn.last;obtain⟨v',Y,C,hr,⟨s,t,u,rfl⟩,R,P,z⟩:=AN (h.jn.each j (by simp)) hC hb hlen
 have l:j∈T0 ++ [j]:=by simp
 have ud:=oU h.blk;have c1:=h.blk.cell (i:=1) rfl;have x:=G.cell (i:=T0.length) (v:=j.v) (by simp)
 have A:¬ j.o=some f:=λe=>by
  obtain⟨cs,k⟩:=(h.jn.each j l).kind e;obtain⟨cs',O⟩:=G.kind;exact absurd (k.eq O).2 (by decide)
 have d:=G.chg z A;have p:=d.cell (i:=T0.length) (v:=j.v) (by simp);have H:=d.free T0.length;have hle:=G.le
 have S:∃ a1 n1 c1,j.v=.slice a1 n1 c1:=by
  obtain⟨cs,_,⟨_,e,_⟩ | ⟨b,c,_,e,_⟩⟩:=h.jn.each j l
  ·exact⟨_,_,_,e⟩
  exact⟨_,_,_,e⟩
 obtain⟨a1,n1,c2,W⟩:=S;rw[W] at x p hr
 have I:∃ a2 n2 c3,bv=.slice a2 n2 c3:=by
  rcases hb with⟨e,_⟩ | ⟨a,c,e,_⟩
  ·exact⟨_,_,_,e⟩
  exact⟨_,_,_,e⟩
 obtain⟨a2,n2,c3,L⟩:=I;subst L
 have hg0:(0:Int) < (T0.length:Int)+1:=by omega
 have hg1:(T0.length:Int)<=16:=by have:=h.len;simp at this;omega
 have M:Hid (∃ K' j',j'.U=j.U ++ r/\SX (C.setCell ⟨f,T0.length,none⟩ (.slice s t u)) K' D F V g m Q (.slice (some ⟨f,0,none⟩) (T0.length+1) c) (T0 ++ [j']) (some f) n N'/\(∀ b,K' b->K b\/w.heap.size<=b)/\Chg K w (C.setCell ⟨f,T0.length,none⟩ (.slice s t u))):=by
  have E:Chg (λb=>j.o=some b\/b=f) w (C.setCell ⟨f,T0.length,none⟩ (.slice s t u)):=(z.mono (λb _ e=>.inl e)).cell (.inl (.inr rfl)) _;obtain⟨cs,Z⟩:=d.kind
  have T:JrA (C.setCell ⟨f,T0.length,none⟩ (.slice s t u)) V D g ⟨j.U ++ r,.slice s t u,Y⟩:=R.stay (l9 Z ((Chg.refl (· = f) C).cell (.inl rfl) _)) (λb e=>by
   have J:b≠f:=λe2=>by
    subst e2;obtain⟨cs',O⟩:=R.kind e;exact absurd (O.eq Z).2 (by decide)
   exact Below.heap_setCell _ _ _ _ J)
  have hS:=h.inner (j':=⟨j.U ++ r,.slice s t u,Y⟩) T (λb e=>(P b e).imp id (λe=>by omega)) (N':=N') X (by rw[gu] at B ⊢; simp only[List.length_append]; omega) ⟨c,by simp,by
   have:=d.set T0.length (by simp) (.slice s t u);rw[xQ T0 j ⟨j.U ++ r,.slice s t u,Y⟩] at this
   simpa using this⟩ E
  refine⟨_,_,rfl,hS,λb hb=>?_,E.mono (λb _ e=>?_)⟩
  ·rcases hb with hb | hb
   ·exact .inl hb.1
   rcases P b hb with e | e
   ·exact .inl (h.own.bck j l b e)
   exact .inr (by omega)
  rcases e with e | e
  ·exact h.own.bck j l b e
  subst e;exact h.own.jrn _ rfl
 clear h hC hb G d R P z A hlen;generalize T0.length=q at *;go_enter Tryz.func159,Tryz.ntmps159;go_wp2_with first
  | (go_at_call 158;go_must (refine ud.mono ?_);rintro e y ⟨rfl,hy⟩;replace hy:=hy.symm;subst hy)
  | (at_builtin;refine Lib.wpList_append_run _ rfl _ _ _ _ rfl _ _ rfl rfl _ _ hr ?_)
 go_end0;exact⟨rfl,M.out⟩
end
section
variable {w:World}{K D F V:Nat->Prop}{g m n N:Nat}{Q:List (List KV)}{jv kv:Value}{T T0:List Jr}{oj:Option Nat}{k:List Int}
theorem yJ(h:SX w K D F V g m Q jv T oj n N)(hk:By w kv k)(a:k.length<=1000000000)(s:N<=100000000) :
  CP 160 #[.pointer (some ⟨g,0,none⟩),kv] w λe w'=>∃ (c:Value) (S:Nat->Prop),e=.returned c/\(∃ f cap,c=.func (.func f) #[] cap)/\SX w' (λb=>K b\/S b) (λb=>D b\/w.heap.size<=b) F (λb=>V b\/S b) g m Q jv T oj n N/\mF w' (λb=>V b\/S b) (λb=>D b\/w.heap.size<=b) g (k,look Q.flatten k) c/\(∀ b,S b->w.heap.size<=b)/\BW w w':=by
 refine(qd (there:=(look Q.flatten k).isSome) (L:=(look Q.flatten k).getD []) h.blk hk a (λw' q t o=>(mU (h.keep t) o s).mono λe r h=>h)).mono ?_
 rintro e w' ⟨s1,s2,s3,v1,l,rfl,g1,u,v,b1,j,d,p,i,B⟩
 have hX:=(h.keep B).vars (S:=λb=>b=s1\/b=s2\/b=s3) (λb hb hF=>by have:=h.map.lt hF; rcases hb with rfl | rfl | rfl<;>omega) (λb hb=>by
  rcases hb with rfl | rfl | rfl
  ·exact⟨_,_,b1,.inl rfl⟩
  ·exact⟨_,_,j,.inr rfl⟩
  exact⟨_,_,d,.inr rfl⟩) (D':=λb=>D b\/w.heap.size<=b) (λ_ _ h=>.inl h)
 refine⟨_,λb=>b=s1\/b=s2\/b=s3,rfl,⟨_,_,rfl⟩,hX,⟨⟨a,λx hx=>?_⟩,s1,s2,v1,.inr (.inl rfl),.inr (.inr (.inl rfl)),b1,j,p.mono (λ_ _ h=>.inr h),?_⟩,(λb hb=>by rcases hb with rfl | rfl | rfl<;>assumption),B⟩
 ·exact(h.map.small _ (jO hx)).2
 cases hl:look Q.flatten k with
 | none=>exact .inl ⟨rfl,by simp⟩
 | some x=>exact .inr ⟨s3,l,x,.inr (.inr (.inr rfl)),d,by rw[hl] at i;exact i.mono (λ_ _ h=>.inr h),rfl,by simp⟩
theorem mD(h:SX w K D F V g m Q jv [] oj n N) :
  Calls Tryz.prog 125 #[.pointer (some ⟨g,0,none⟩),kv] w λe w'=>e=.returned (.tuple #[])/\w'=w:=by
 have b:=qi h;clear h;go_enter Tryz.func125,Tryz.ntmps125;go_wp2_with (go_at_call 158;go_must (refine b.mono ?_);rintro e y ⟨rfl,hy⟩;replace hy:=hy.symm;subst hy);go_end0;exact⟨rfl,rfl⟩
theorem py{j:Jr}(h:SX w K D F V g m Q jv (T0 ++ [j]) oj n N)(hk:By w kv k)(p:k.length<=1000000000)(I:N<=100000000) :
  Calls Tryz.prog 125 #[.pointer (some ⟨g,0,none⟩),kv] w λe w'=>e=.returned (.tuple #[])/\∃ K' V' j',j'.U=j.U ++ [(k,look Q.flatten k)]/\SX w' K' (λb=>D b\/w.heap.size<=b) F V' g m Q jv (T0 ++ [j']) oj n (N+1)/\(∀ b,K' b->K b\/w.heap.size<=b)/\Chg K w w':=by
 have r:=qi h;have C:=yJ h hk p I;obtain⟨J,c,rfl,-⟩:=id hk.ex;generalize k.length=kn at *
 have v:(0:Int) < ((T0 ++ [j]).length:Int):=by simp
 have L:Hid (∀ b,K b->b < w.heap.size):=λb hb=>by obtain⟨cs,t,k,_⟩:=h.own.kind b hb;exact k.lt
 clear h hk;generalize (T0 ++ [j]).length=tl at *;go_enter Tryz.func125,Tryz.ntmps125;go_wp2_with first
  | (go_at_call 158;go_must (refine r.mono ?_);rintro e y ⟨rfl,hy⟩;replace hy:=hy.symm;subst hy)
  | (go_at_call 160;go_must (refine C.mono ?_);rintro e d ⟨cl,S,rfl,⟨f,cap,rfl⟩,l,s,hS,z⟩;have al:=aa d (.cells #[.func (.func f) #[] cap] 1);have bl:=ay d [.func (.func f) #[] cap] 1;have B:fj (d.alloc (.cells #[.func (.func f) #[] cap] 1)) (λb=>V b\/S b) (λb=>D b\/w.heap.size<=b) g [(k,look Q.flatten k)] [.func (.func f) #[] cap]:=⟨rfl,(λi u c hu hc=>by (have hi:i=0:=(by have:=(List.getElem?_eq_some_iff.1 hu).1;simp at this;omega));subst hi;simp at hu hc;subst hu;subst hc;exact s.stay ⟨λb _ _ _ k _=>al.block b k.lt,λb v _ _=>al.block b v⟩)⟩;have A:FD (d.alloc (.cells #[.func (.func f) #[] cap] 1)) (.slice (some ⟨d.heap.size,0,none⟩) 1 1) [.func (.func f) #[] cap]:=.inr ⟨_,1,rfl,(λi x hx=>by (have hi:i=0:=(by have:=(List.getElem?_eq_some_iff.1 hx).1;simp at this;omega));subst hi;simp at hx;subst hx;exact bl.cell (i:=0) rfl)⟩;have un:=GX (N':=N+1) (l.keep al) B A (by omega) (by have:=l.tot;simp only[List.length_cons,List.length_nil];omega) (by omega);clear l s B A bl r C)
  | (go_at_call 159;go_must (refine un.mono ?_);rintro e M ⟨rfl,K',j',q,G,o,H⟩;clear un)
 go_end0;refine⟨rfl,K',_,j',q,G,λb hb=>?_,?_⟩
 ·rcases o b hb with(h1 | h1) | h1
  ·exact .inl h1
  ·exact .inr (hS b h1)
  exact .inr (by have:=z.size;have:=al.size;omega)
 have E:=ae z al;exact(Chg.of (F:=K) E).trans H (λb hb e=>e.elim id (λe=>by have:=hS b e;omega))
def BK(w:World)(K:Nat->Prop)(kv:Value)(k:List Int):Prop:=∀ w',Chg K w w'->By w' kv k
theorem BK.by(h:BK w K kv k):By w kv k:=h w (Chg.refl _ _)
theorem BK.shape(h:BK w K kv k):∃ ao c,kv=.slice ao k.length c:=by
 obtain⟨ao,c,e,_⟩:=h.by.ex
 exact⟨ao,c,e⟩
theorem fi{w1 w2:World}(h:Chg K w w1)(h':Chg K w1 w2):Chg K w w2:=h.trans h' (λ_ _ h=>h)
end
section
variable {T0 T:List Jr}{j:Jr}{W:List aD}{E E':aD}{w w':World}{K D F V:Nat->Prop}{g m n N:Nat}{Q:List (List KV)}{jv kv vv:Value}{oj:Option Nat}{k v:List Int}
theorem oT{j':Jr}{u:Und}(h:gy ((T0 ++ [j]).reverse.map Jr.U) W E)(a:j'.U=j.U ++ [u])(hu:oK E' u=E):gy ((T0 ++ [j']).reverse.map Jr.U) W E':=by
 rw[List.reverse_append] at h ⊢;simp only[List.reverse_cons,List.reverse_nil,List.nil_append,List.cons_append,List.map_cons] at h ⊢
 cases W with
 | nil=>exact h.elim
 | cons e W=>exact⟨by rw[a,vj,hu];exact h.1,h.2⟩
theorem nm(h:gy [] W E):gy [] W E':=by
 cases W with
 | nil=>trivial
 | cons e W=>exact h.elim
def gV(k v:List Int):Int:=if k.length=0\/64 < k.length then 60 else if 4096 < v.length then 61 else 0
def Ends(w:World)(K D:Nat->Prop)(g:Nat)(E:aD)(W:List aD)(n N:Nat)(r:Value)(e:Ending)(w':World):Prop:=e=.returned r/\∃ K',SA w' K' (λb=>D b\/w.heap.size<=b) g E W n N/\(∀ b,K' b->K b\/w.heap.size<=b)/\Chg K w w'
theorem SX.kg(h:SX w K D F V g m Q jv T oj n N)(hc:Chg (·=g) w w'):Chg K w w':=hc.mono (λb _ e=>by have e':b=g:=e;subst e';exact h.own.top)
theorem yq(h:SA w K D g E W n N)(hk:BK w K kv k)(hv:BK w K vv v)(hn:n<=4000000000000000000)(h0:k.length=0) :
  Calls Tryz.prog 86 #[.pointer (some ⟨g,0,none⟩),kv,vv] w (Ends w K D g E W (n+1) (N+2) (.int .i64 60)):=by
 obtain⟨F,V,m,Q,t,T,z,hX,f,i⟩:=h.open;obtain⟨s,c,rfl⟩:=hk.shape;obtain⟨x,d,rfl⟩:=hv.shape;have u:=fX hX hn;have q:=aG hX;have o:=aG f;have j:=aG i;generalize k.length=kn at *;generalize v.length=y at *
 have g0:(kn:Int)=0:=by omega
 clear hX f i h hk hv;go_enter Tryz.func86,Tryz.ntmps86;go_wp2_with (go_at_call 70;go_must (refine u.mono ?_);rintro e r ⟨rfl,p,l⟩);go_ret;exact⟨rfl,K,(p.shut o.out j.out).more (by omega) |>.mono (λ_ _ h=>.inl h),λb h=>.inl h,q.out.kg l⟩
theorem xN(h:SA w K D g E W n N)(hk:BK w K kv k)(hv:BK w K vv v)(hn:n<=4000000000000000000)(h0:¬ k.length=0)(h1:64 < k.length) :
  Calls Tryz.prog 86 #[.pointer (some ⟨g,0,none⟩),kv,vv] w (Ends w K D g E W (n+1) (N+2) (.int .i64 60)):=by
 obtain⟨F,V,m,Q,t,T,z,hX,f,i⟩:=h.open;obtain⟨s,c,rfl⟩:=hk.shape;obtain⟨x,d,rfl⟩:=hv.shape;have u:=fX hX hn;have q:=aG hX;have o:=aG f;have j:=aG i;generalize k.length=kn at *;generalize v.length=y at *
 have g0:((kn:Int)=0)=False:=eq_false (by omega)
 have g1:(64:Int) < kn:=by omega
 clear hX f i h hk hv;go_enter Tryz.func86,Tryz.ntmps86;go_wp2_with (go_at_call 70;go_must (refine u.mono ?_);rintro e r ⟨rfl,p,l⟩);go_ret;exact⟨rfl,K,(p.shut o.out j.out).more (by omega) |>.mono (λ_ _ h=>.inl h),λb h=>.inl h,q.out.kg l⟩
theorem Cm(h:SA w K D g E W n N)(hk:BK w K kv k)(hv:BK w K vv v)(hn:n<=4000000000000000000)(h0:¬ k.length=0)(h1:¬ 64 < k.length)(t:4096 < v.length) :
  Calls Tryz.prog 86 #[.pointer (some ⟨g,0,none⟩),kv,vv] w (Ends w K D g E W (n+1) (N+2) (.int .i64 61)):=by
 obtain⟨F,V,m,Q,z,T,B,hX,f,i⟩:=h.open;obtain⟨y,c,rfl⟩:=hk.shape;obtain⟨A,d,rfl⟩:=hv.shape;have u:=fX hX hn;have r:=aG hX;have p:=aG f;have j:=aG i;generalize k.length=kn at *;generalize v.length=o at *
 have g0:((kn:Int)=0)=False:=eq_false (by omega)
 have g1:((64:Int) < kn)=False:=eq_false (by omega)
 have x:(4096:Int) < o:=by omega
 clear hX f i h hk hv;go_enter Tryz.func86,Tryz.ntmps86;go_wp2_with (go_at_call 70;go_must (refine u.mono ?_);rintro e s ⟨rfl,q,l⟩);go_ret;exact⟨rfl,K,(q.shut p.out j.out).more (by omega) |>.mono (λ_ _ h=>.inl h),λb h=>.inl h,r.out.kg l⟩
theorem zN(hX:SX w K D F V g m Q jv [] oj n N)(B:gy ([].reverse.map Jr.U) W Q.flatten)(hk:BK w K kv k)(hv:BK w K vv v)(hn:n<=4000000000000000000)(r:N+2<=100000000)(h0:¬ k.length=0)(h1:¬ 64 < k.length)(C:¬ 4096 < v.length) :
  Calls Tryz.prog 86 #[.pointer (some ⟨g,0,none⟩),kv,vv] w (Ends w K D g (put Q.flatten k v) W (n+1) (N+2) (.int .i64 0)):=by
 obtain⟨M,c,rfl⟩:=hk.shape;obtain⟨O,d,rfl⟩:=hv.shape;have u:=fX hX hn;have s:=aG hX;have J:=aG B;have z:=aG hk;have A:=aG hv;have o:=aG (show k.length<=64 by omega);have p:=aG (show v.length<=4096 by omega);replace r:N<=99999998:=by omega
 have I:=r;replace r:N<=100000000:=by omega
 have g0:((k.length:Int)=0)=False:=eq_false (by omega)
 have g1:((64:Int) < k.length)=False:=eq_false (by omega)
 have H:¬ ((4096:Int) < v.length):=by omega
 clear hX B hk hv;obtain⟨kn,l⟩:∃ kn,Hid (k.length=kn):=⟨_,rfl⟩
 obtain⟨t,q⟩:∃ t,Hid (v.length=t):=⟨_,rfl⟩
 rw[l.out] at g0 g1 z h0 h1 ⊢;rw[q.out] at H A C ⊢;go_enter Tryz.func86,Tryz.ntmps86;go_wp2_with first
  | (go_at_call 70;go_must (refine u.mono ?_);rintro e P ⟨rfl,f,j⟩)
  | (go_at_call 125;go_must (refine(mD f).mono ?_);rintro e y ⟨rfl,hy⟩;replace hy:=hy.symm;subst hy;have c0:=f.blk.cell (i:=0) rfl;have us:=Dw f.map (z.out _ (s.out.kg j)) (A.out _ (s.out.kg j)) (by have:=o.out;omega) (by have:=p.out;omega) (by omega))
  | (go_at_call 126;go_must (refine us.mono ?_);rintro e R ⟨rfl,S,G,hF,x⟩)
 go_ret;have L:=f.mapped (N':=N+1) (by have:=f.tot;have:=ku f.map.ord.flat k v;rw[eC f.map.ord];omega) G hF (λ_ h=>.inl h) x;refine⟨rfl,_,((L.shut (E:=put Q.flatten k v) (W:=W) (eC f.map.ord k v) (nm J.out)).more (by omega)).mono (λb _ hb=>?_),λb hb=>?_,?_⟩
 ·rcases hb with hb | hb
  ·exact .inl hb
  exact .inr (by have:=j.size;omega)
 ·rcases hb with⟨hb,_⟩ | hb
  ·exact .inl hb
  rcases hF b hb with h1 | h1
  ·exact .inl (f.own.map b h1)
  exact .inr (by have:=j.size;omega)
 exact fi (s.out.kg j) (x.mono (λb _ h=>f.own.map b h))
theorem BC(hX:SX w K D F V g m Q jv (T0 ++ [j]) oj n N)(H:gy ((T0 ++ [j]).reverse.map Jr.U) W Q.flatten)(hk:BK w K kv k)(hv:BK w K vv v)(hn:n<=4000000000000000000)(r:N+2<=100000000)(h0:¬ k.length=0)(h1:¬ 64 < k.length)(I:¬ 4096 < v.length) :
  Calls Tryz.prog 86 #[.pointer (some ⟨g,0,none⟩),kv,vv] w (Ends w K D g (put Q.flatten k v) W (n+1) (N+2) (.int .i64 0)):=by
 obtain⟨Y,c,rfl⟩:=hk.shape;obtain⟨bo,d,rfl⟩:=hv.shape;have u:=fX hX hn;have A:=aG hX;have R:=aG H;have z:=aG hk;have G:=aG hv;have p:=aG (show k.length<=64 by omega);have t:=aG (show v.length<=4096 by omega);replace r:N<=99999998:=by omega
 have P:=r;replace r:N<=100000000:=by omega
 have g0:((k.length:Int)=0)=False:=eq_false (by omega)
 have g1:((64:Int) < k.length)=False:=eq_false (by omega)
 have O:¬ ((4096:Int) < v.length):=by omega
 clear hX H hk hv;obtain⟨kn,s⟩:∃ kn,Hid (k.length=kn):=⟨_,rfl⟩
 obtain⟨B,x⟩:∃ B,Hid (v.length=B):=⟨_,rfl⟩
 rw[s.out] at g0 g1 z h0 h1 ⊢;rw[x.out] at O G I ⊢;go_enter Tryz.func86,Tryz.ntmps86;go_wp2_with first
  | (go_at_call 70;go_must (refine u.mono ?_);rintro e w1 ⟨rfl,L,o⟩)
  | (go_at_call 125;go_must (refine(py L (z.out _ (A.out.kg o)) (by have:=p.out;omega) r).mono ?_);rintro e w2 ⟨rfl,X,Z,T,y,f,l,M⟩;have q:=fi (A.out.kg o) M;have c0:=f.blk.cell (i:=0) rfl;have us:=Dw f.map (z.out _ q) (G.out _ q) (by have:=p.out;omega) (by have:=t.out;omega) (by omega))
  | (go_at_call 126;go_must (refine us.mono ?_);rintro e w3 ⟨rfl,F',J,hF,C⟩)
 go_ret;have S:=f.mapped (N':=N+1+1) (by have:=f.tot;have:=ku f.map.ord.flat k v;rw[eC f.map.ord];omega) J hF (λ_ h=>.inl h) C;refine⟨rfl,_,((S.shut (E:=put Q.flatten k v) (W:=W) (eC f.map.ord k v) (oT R.out y (CO A.out.map.ord.flat k v))).more (by omega)).mono (λb _ hb=>?_),λb hb=>?_,?_⟩
 ·rcases hb with(hb | hb) | hb
  ·exact .inl hb
  ·exact .inr (by have:=o.size;omega)
  exact .inr (by have:=q.size;omega)
 ·rcases hb with⟨hb,_⟩ | hb
  ·exact(l b hb).imp id (λh=>by have:=o.size;omega)
  rcases hF b hb with h1 | h1
  ·exact(l b (f.own.map b h1)).imp id (λh=>by have:=o.size;omega)
  exact .inr (by have:=q.size;omega)
 exact q.trans C (λb hb h=>(l b (f.own.map b h)).elim id (λh=>by have:=o.size;omega))
theorem sset(h:SA w K D g E W n N)(hk:BK w K kv k)(hv:BK w K vv v)(hn:n<=4000000000000000000)(f:N+2<=100000000) :
  CP 86 #[.pointer (some ⟨g,0,none⟩),kv,vv] w (Ends w K D g (if gV k v=0 then put E k v else E) W (n+1) (N+2) (.int .i64 (gV k v))):=by
 by_cases a:k.length=0
 ·have e:gV k v=60:=by unfold gV; rw[if_pos (.inl a)]
  rw[e,if_neg (by decide)];exact yq h hk hv hn a
 by_cases c:64 < k.length
 ·have e:gV k v=60:=by unfold gV; rw[if_pos (.inr c)]
  rw[e,if_neg (by decide)];exact xN h hk hv hn a c
 by_cases b:4096 < v.length
 ·have e:gV k v=61:=by unfold gV; rw[if_neg (by omega),if_pos b]
  rw[e,if_neg (by decide)];exact Cm h hk hv hn a c b
 have e:gV k v=0:=by unfold gV; rw[if_neg (by omega),if_neg b]
 rw[e,if_pos rfl];obtain⟨F,V,m,Q,i,T,o,hX,rfl,d⟩:=h.open;rcases List.eq_nil_or_concat T with rfl | ⟨l,j,rfl⟩
 ·exact zN hX d hk hv hn f a c b
 rw[List.concat_eq_append] at hX d;exact BC hX d hk hv hn f a c b
end
end Kv
end
end Go.Proofs.YtpoifdokmjhclaaGreat
