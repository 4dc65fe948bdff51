import Derived.Test.YtgdohcdlkonhiaaGreatDoorJac
set_option maxRecDepth 100000
set_option maxHeartbeats 8000000
namespace Go.Proofs.YtgdohcdlkonhiaaGreatDoor
section
namespace Kv
open Pg
section
variable {k x v:List Int}{Q:List (List KV)}
abbrev aC:=List KV
def sG(E:aC):Prop:=E.Pairwise fun x y=>Lt x.1 y.1
def look(E:aC)(k:List Int):Option (List Int):=(E.find? (fun x=>decide (x.1=k))).map Prod.snd
def put(E:aC)(k v:List Int):aC:=E.filter (fun x=>decide (Lt x.1 k)) ++ (k,v) :: E.filter (fun x=>decide (Lt k x.1))
def rem(E:aC)(k:List Int):aC:=E.filter (fun x=>decide (¬ x.1=k))
theorem eu{α:Type}{p:α->Bool}{l:List α}(h:∀ x∈l,p x=true):l.filter p=l:=List.filter_eq_self.2 h
theorem iC{α:Type}{p:α->Bool}{l:List α}(h:∀ x∈l,p x=false):l.filter p=[]:=List.filter_eq_nil_iff.2 (fun x hx=>by rw[h x hx];simp)
structure Cut(k:List Int)(X Y:aC):Prop where
 lo:∀ x∈X,Lt x.1 k
 hi:∀ y∈Y,Lt k y.1
theorem Cut.nx{X Y:aC}(h:Cut k X Y):∀ x∈X,¬ x.1=k:=fun x hx e=>by have:=h.lo x hx;rw[e] at this;exact lt_irrefl _ this
theorem Cut.ny{X Y:aC}(h:Cut k X Y):∀ x∈Y,¬ x.1=k:=fun x hx e=>by have:=h.hi x hx;rw[e] at this;exact lt_irrefl _ this
theorem BH{X:aC}(h:∀ x∈X,¬ x.1=k):look X k=none:=by
 unfold look;rw[List.find?_eq_none.2 (fun x hx=>by simp[h x hx])];rfl
theorem r8{X Y:aC}(h:∀ x∈X,¬ x.1=k):look (X ++ Y) k=look Y k:=by
 unfold look;rw[List.find?_append,List.find?_eq_none.2 (fun x hx=>by simp[h x hx])];simp
theorem Cut.yX{X Y:aC}(h:Cut k X Y):look (X ++ Y) k=none:=by rw[r8 h.nx,BH h.ny]
theorem Cut.uR{X Y:aC}(h:Cut k X Y):look (X ++ (k,x) :: Y) k=some x:=by
 rw[r8 h.nx];simp[look]
theorem Cut.put0{X Y:aC}(h:Cut k X Y):put (X ++ Y) k v=X ++ (k,v) :: Y:=by
 unfold put;rw[List.filter_append,List.filter_append,eu (l:=X) (fun x hx=>decide_eq_true (h.lo x hx)),iC (l:=Y) (fun x hx=>decide_eq_false (h.hi x hx).not),iC (l:=X) (fun x hx=>decide_eq_false (h.lo x hx).not),eu (l:=Y) (fun x hx=>decide_eq_true (h.hi x hx))];simp
theorem Cut.put1{X Y:aC}(h:Cut k X Y):put (X ++ (k,x) :: Y) k v=X ++ (k,v) :: Y:=by
 unfold put;rw[List.filter_append,List.filter_append,eu (l:=X) (fun x hx=>decide_eq_true (h.lo x hx)),iC (l:=X) (fun x hx=>decide_eq_false (h.lo x hx).not),List.filter_cons,List.filter_cons,iC (l:=Y) (fun x hx=>decide_eq_false (h.hi x hx).not),eu (l:=Y) (fun x hx=>decide_eq_true (h.hi x hx)),decide_eq_false (lt_irrefl k)];simp
theorem Cut.rem0{X Y:aC}(h:Cut k X Y):rem (X ++ Y) k=X ++ Y:=by
 unfold rem;rw[List.filter_append,eu (l:=X) (fun x hx=>decide_eq_true (h.nx x hx)),eu (l:=Y) (fun x hx=>decide_eq_true (h.ny x hx))]
theorem Cut.rem1{X Y:aC}(h:Cut k X Y):rem (X ++ (k,x) :: Y) k=X ++ Y:=by
 unfold rem;rw[List.filter_append,eu (l:=X) (fun x hx=>decide_eq_true (h.nx x hx)),List.filter_cons,eu (l:=Y) (fun x hx=>decide_eq_true (h.ny x hx))];simp
theorem qw{X Y:aC}(h:sG (X ++ (k,x) :: Y)):Cut k X Y:=by
 unfold sG at h;rw[List.pairwise_append,List.pairwise_cons] at h;exact⟨fun a ha=>h.2.2 a ha (k,x) List.mem_cons_self,fun b hb=>h.2.1.1 b hb⟩
theorem sG.cut{E:aC}(h:sG E)(k:List Int):∃ X Y,Cut k X Y/\((E=X ++ Y/\look E k=none)\/∃ x,E=X ++ (k,x) :: Y/\look E k=some x):=by
 induction E with
 | nil=>exact⟨[],[],⟨fun _ h=>by simp at h,fun _ h=>by simp at h⟩,.inl ⟨rfl,rfl⟩⟩
 | cons a E ih =>
  have b:=h;unfold sG at b;rw[List.pairwise_cons] at b;rcases qc a.1 k with f | he | d
  ·obtain⟨X,Y,c,r⟩:=ih b.2
   have hc:Cut k (a :: X) Y:=⟨fun x hx=>by
    rcases List.mem_cons.1 hx with rfl | hx
    ·exact f
    ·exact c.lo x hx,c.hi⟩
   refine⟨a :: X,Y,hc,?_⟩;rcases r with⟨e,_⟩ | ⟨x,e,_⟩
   ·subst e;exact .inl ⟨rfl,hc.yX⟩
   ·subst e;exact .inr ⟨x,rfl,hc.uR⟩
  ·have hc:Cut k [] E:=⟨fun _ h=>by simp at h,fun y hy=>by rw[<- he];exact b.1 y hy⟩
   obtain⟨ak,g⟩:=a;simp only at he;subst he;exact⟨[],E,hc,.inr ⟨g,rfl,hc.uR⟩⟩
  ·have hc:Cut k [] (a :: E):=⟨fun _ h=>by simp at h,fun y hy=>by
    rcases List.mem_cons.1 hy with rfl | hy
    ·exact d
    ·exact d.trans (b.1 y hy)⟩
   exact⟨[],a :: E,hc,.inl ⟨rfl,hc.yX⟩⟩
abbrev Und:=List Int × Option (List Int)
def undo(E:aC)(u:Und):aC:=match u.2 with
 | none=>rem E u.1
 | some v=>put E u.1 v
def undos(U:List Und)(E:aC):aC:=U.foldr (fun u E=>undo E u) E
def qF:List (List Und)->List aC->aC->Prop
 | [],[],_=>True
 | U :: J,e :: W,E=>undos U E=e/\qF J W e
 | _,_,_=>False
theorem oE(h:kz Q)(k v:List Int):(rT Q k v).flatten=put Q.flatten k v:=by
 cases hh:gU Q k
 ·obtain⟨X,Y,e1,e2,b,a⟩:=h.iX v hh;rw[e1,e2,Cut.put0 ⟨b,a⟩]
 ·obtain⟨X,x,Y,e1,e2⟩:=h.vE v hh;have c:=qw (by have:=h.flat;rw[e1] at this;exact this);rw[e1,e2,c.put1]
theorem mO(h:kz Q)(k:List Int):gU Q k=(look Q.flatten k).isSome:=by
 cases hh:gU Q k
 ·obtain⟨X,Y,e1,_,b,a⟩:=h.iX [] hh;rw[e1,Cut.yX ⟨b,a⟩];rfl
 ·obtain⟨X,x,Y,e1,_⟩:=h.vE [] hh;have c:=qw (by have:=h.flat;rw[e1] at this;exact this);rw[e1,c.uR];rfl
theorem oM(h:kz Q)(k:List Int):(tQ Q k).flatten=rem Q.flatten k:=by
 cases hh:gU Q k
 ·rw[wP hh];obtain⟨X,Y,e1,_,b,a⟩:=h.iX [] hh;rw[e1,Cut.rem0 ⟨b,a⟩]
 ·obtain⟨X,x,Y,e1,e2⟩:=h.Dy hh;have c:=qw (by have:=h.flat;rw[e1] at this;exact this);rw[e1,e2,c.rem1]
theorem Dh(a:gU Q k=true):(k,xb Q k)∈Q.flatten:=by
 unfold gU thr at a;simp only[Bool.and_eq_true,Bool.not_eq_true',decide_eq_true_eq] at a;obtain⟨_,b⟩:=a;unfold xb;rw[List.getElem?_map] at b;obtain⟨x,hx,hk⟩:=Option.map_eq_some_iff.1 b;rw[hx];simp only[Option.map_some,Option.getD_some];have hm:=List.mem_of_getElem? hx
 have c:x=(k,x.2):=by rw[<- hk]
 rw[<- c];rw[List.getD_eq_getElem?_getD] at hm
 cases hq:Q[apl Q k]? with
 | none=>rw[hq] at hm;simp at hm
 | some p=>rw[hq] at hm;exact List.mem_flatten.2 ⟨p,List.mem_of_getElem? hq,hm⟩
theorem Bi(h:kz Q)(k:List Int):(if gU Q k then xb Q k else [])=(look Q.flatten k).getD []:=by
 cases hh:gU Q k
 ·have:=mO h k;rw[hh] at this
  cases hl:look Q.flatten k with
  | none=>rfl
  | some x=>rw[hl] at this;cases this
 ·have hm:=Dh hh;obtain⟨X,Y,e⟩:=List.append_of_mem hm;have c:=qw (by have:=h.flat;rw[e] at this;exact this);rw[e,c.uR];rfl
theorem mC{E:aC}(h:look E k=some x):(k,x)∈E:=by
 unfold look at h;obtain⟨a,c,rfl⟩:=Option.map_eq_some_iff.1 h;have d:=List.mem_of_find?_eq_some c;have b:=List.find?_some c;simp only[decide_eq_true_eq] at b;rw[<- b];exact d
theorem Ct{E:aC}(h:sG E)(k v:List Int):(put E k v).length<=E.length+1:=by
 obtain⟨X,Y,c,⟨rfl,_⟩ | ⟨x,rfl,_⟩⟩:=h.cut k
 ·rw[c.put0];simp;omega
 ·rw[c.put1];simp
theorem Dd{E:aC}(k:List Int):(rem E k).length<=E.length:=List.length_filter_le _ _
end
end Kv
end
section
namespace Pg
open Go.RowKit Go.Lib
section
variable {L:List Pg}{N g b:Nat}{w w':World}{F D:Nat->Prop}{Q:List (List KV)}{P:List (List En)}{p:En->Prop}{kv:Value}{k:List Int}
structure Mp(w:World)(F D:Nat->Prop)(g:Nat)(Q:List (List KV))(N:Nat):Prop where
 ex:∃ L,abs (ens L)=Q/\bG w F D g L/\Ord (ens L)/\Shq (ens L)/\(ens L).flatten.length<=N/\∀ es∈ens L,∀ e∈es,e.kl.length<=1000000000/\e.vl.length<=1000000000
theorem vg:∀ {P:List (List En)},(∀ es∈P,1<=es.length)->P.length<=P.flatten.length
 | [],_=>Nat.le_refl _
 | a :: P,h=>by
  have h1:=h a List.mem_cons_self;have b:=vg (P:=P) fun es he=>h es (List.mem_cons_of_mem _ he)
  simp only[List.flatten_cons,List.length_append,List.length_cons];omega
theorem Shq.few(h:Shq (ens L))(hN:(ens L).flatten.length<=N)(hb:N<=100000000):L.length<=100000000:=by
 have h1:=vg fun es he=>(h.one es he).1
 have h2:(ens L).length=L.length:=by simp[ens]
 omega
theorem Mp.lt(M:Mp w F D g Q N)(hb:F b):b < w.heap.size:=by
 obtain⟨L,_,A,_⟩:=M.ex;exact A.lt hb
theorem Mp.noU(M:Mp w F D g Q N)(hb:F b)(cs:List Value):¬ Blk w b cs 5:=by
 obtain⟨L,_,A,_⟩:=M.ex;exact A.noU hb cs
theorem Mp.keep(M:Mp w F D g Q N)(hb:Below w.heap.size w w'):Mp w' F D g Q N:=by
 obtain⟨L,e,A,r⟩:=M.ex;exact⟨L,e,A.keep hb,r⟩
theorem Mp.same(M:Mp w F D g Q N)(h1:∀ b,F b->w'.heap[b]?=w.heap[b]?)(a:∀ b,b < w.heap.size->D b->(∃ cs,Blk w b cs 5)->w'.heap[b]?=w.heap[b]?):Mp w' F D g Q N:=by
 obtain⟨L,e,A,r⟩:=M.ex;exact⟨L,e,A.same h1 a,r⟩
theorem Mp.chg{F':Nat->Prop}(M:Mp w F D g Q N)(hc:Chg F' w w')(h1:∀ b,F' b->¬ F b)(h2:∀ b,F' b->∀ cs,¬ Blk w b cs 5):Mp w' F D g Q N:=by
 obtain⟨L,e,A,r⟩:=M.ex;exact⟨L,e,A.chg hc h1 h2,r⟩
theorem Mp.mono{D':Nat->Prop}(M:Mp w F D g Q N)(hD:∀ b,b < w.heap.size->D b->D' b):Mp w F D' g Q N:=by
 obtain⟨L,e,A,r⟩:=M.ex;exact⟨L,e,A.mono hD,r⟩
theorem Mp.more{N':Nat}(M:Mp w F D g Q N)(h:N<=N'):Mp w F D g Q N':=by
 obtain⟨L,e,A,O,S,n,r⟩:=M.ex;exact⟨L,e,A,O,S,by omega,r⟩
theorem Mp.ord(M:Mp w F D g Q N):kz Q:=by
 obtain⟨L,e,A,O,_⟩:=M.ex;exact⟨_,e,O⟩
theorem Mp.len(M:Mp w F D g Q N):Q.flatten.length<=N:=by
 obtain⟨L,rfl,A,O,S,n,r⟩:=M.ex;rw[dm,List.length_map];exact n
theorem Mp.small(M:Mp w F D g Q N):∀ x∈Q.flatten,x.1.length<=1000000000/\x.2.length<=1000000000:=by
 obtain⟨L,rfl,A,O,S,n,r⟩:=M.ex;intro x hx;rw[dm] at hx;obtain⟨e,he,rfl⟩:=List.mem_map.1 hx;obtain⟨es,b,a⟩:=List.mem_flatten.1 he;exact r es b e a
theorem nN:(∀ es∈P,∀ e∈es,p e)<->∀ e∈P.flatten,p e :=
 ⟨fun h e he=>by obtain⟨es,h1,h2⟩:=List.mem_flatten.1 he;exact h es h1 e h2,fun h es he e hee=>h e (List.mem_flatten.2 ⟨es,he,hee⟩)⟩
theorem mnew:Calls Tryz.prog 41 #[] w fun e w'=>e=.returned (.pointer (some ⟨w.heap.size,0,none⟩))/\Mp w' (· = w.heap.size) (fun _=>False) w.heap.size [] 0/\Below w.heap.size w w' :=
 BP.mono fun e w' ⟨g,he,a,A,B⟩=>by
  subst a;exact⟨he,⟨[],rfl,A,⟨fun _ h=>by simp[ens] at h,List.Pairwise.nil⟩,Shq.nil,Nat.le_refl _,fun _ h=>by simp[ens] at h⟩,B⟩
theorem mset{vv:Value}{v:List Int}(M:Mp w F D g Q N)(hk:By w kv k)(hv:By w vv v)(a:k.length<=1000000000)(c:v.length<=1000000000)(j:N<=100000000) :
  Calls Tryz.prog 50 #[.pointer (some ⟨g,0,none⟩),kv,vv] w fun e w'=>e=.returned (.bool (!gU Q k))/\∃ F',Mp w' F' (fun b=>D b\/w.heap.size<=b) g (rT Q k v) (N+1)/\(∀ b,F' b->F b\/w.heap.size<=b)/\Chg F w w':=by
 obtain⟨L,rfl,A,O,S,n,r⟩:=M.ex;refine(Cd A O (fun es he=>(S.one es he).2) (S.few n j) hk hv a c).mono fun e w' ⟨he,F',f,nk,d,e1,i,hF,hc⟩=>?_
 refine⟨by rw[gH];exact he,F',⟨f,by rw[e1,qP],i,by rw[e1];exact O.set _,by rw[e1];exact S.set O _,?_,?_⟩,hF,hc⟩
 ·rw[e1,CH O];split<;>omega
 ·rw[e1];rw[nN] at r ⊢;intro x hx
  cases hh:has (ens L) k
  ·obtain⟨X,Y,e2,e3,_⟩:=gI O (e:=⟨nk,k,d,v⟩) hh;rw[e3] at hx;rw[e2] at r;rcases List.mem_append.1 hx with h | h
   ·exact r x (List.mem_append_left _ h)
   ·rcases List.mem_cons.1 h with h | h
    ·subst h;exact⟨a,c⟩
    ·exact r x (List.mem_append_right _ h)
  ·obtain⟨X,y,Y,e2,hy,e3⟩:=gP O (e:=⟨nk,k,d,v⟩) hh;rw[e3] at hx;rw[e2] at r;rcases List.mem_append.1 hx with h | h
   ·exact r x (List.mem_append_left _ h)
   ·rcases List.mem_cons.1 h with h | h
    ·subst h;exact⟨by simp only;rw[hy];exact a,c⟩
    ·exact r x (List.mem_append_right _ (List.mem_cons_of_mem _ h))
theorem mdel(M:Mp w F D g Q N)(hk:By w kv k)(d:N<=100000000) :
  Calls Tryz.prog 160 #[.pointer (some ⟨g,0,none⟩),kv] w fun e w'=>e=.returned (.bool (gU Q k))/\∃ F',Mp w' F' D g (tQ Q k) N/\(∀ b,F' b->F b\/w.heap.size<=b)/\Chg F w w':=by
 obtain⟨L,rfl,A,O,S,n,r⟩:=M.ex;refine(uf A O (fun es he=>(S.one es he).2) (S.few n d) hk).mono fun e w' ⟨he,F',a,e1,c,hF,hc⟩=>?_
 refine⟨by rw[gH];exact he,F',⟨a,by rw[e1,vj],c,by rw[e1];exact O.del _,by rw[e1];exact S.del O _,?_,?_⟩,hF,hc⟩
 ·rw[e1]
  cases hh:has (ens L) k
  ·rw[se hh];exact n
  ·obtain⟨X,x,Y,e2,_,e3⟩:=nV O hh;rw[e2] at n;rw[e3];simp only[List.length_append,List.length_cons] at n ⊢;omega
 ·rw[e1];rw[nN] at r ⊢;intro x hx
  cases hh:has (ens L) k
  ·rw[se hh] at hx;exact r x hx
  ·obtain⟨X,y,Y,e2,_,e3⟩:=nV O hh;rw[e3] at hx;rw[e2] at r;rcases List.mem_append.1 hx with h | h
   ·exact r x (List.mem_append_left _ h)
   ·exact r x (List.mem_append_right _ (List.mem_cons_of_mem _ h))
theorem mget(M:Mp w F D g Q N)(hk:By w kv k)(b:N<=100000000) :
  Calls Tryz.prog 150 #[.pointer (some ⟨g,0,none⟩),kv] w fun e w'=>∃ v,e=.returned (.tuple #[v,.bool (gU Q k)])/\OB w' (w.heap.size <= ·) v (if gU Q k then xb Q k else [])/\Below w.heap.size w w':=by
 obtain⟨L,rfl,A,O,S,n,r⟩:=M.ex;rw[gH,Ck];exact eR A O (fun es he=>by have:=(S.one es he).2;omega) (S.few n b) hk fun p a e he=>(r p.es (List.mem_map.2 ⟨p,a,rfl⟩) e he).2
end
end Pg
end
section
namespace Kv
open Go.RowKit Go.Lib Pg
section
variable {V D V' D' K:Nat->Prop}{w w':World}{v c jv:Value}{l:List Int}{g b n N:Nat}{cs:List Value}{oj:Option Nat}{E:aC}{W:List aC}
structure sK(w:World)(V D:Nat→Prop)(g:Nat)(u:Und)(c:Value):Prop where
  short:u.1.length≤1000000000∧∀ x,u.2=some x→x.length≤1000000000
  ex:∃ s1 s2 kv,V s1∧V s2∧Blk w s1 [.pointer (some ⟨g,0,none⟩)] 40∧Blk w s2 [kv] 42∧OB w D kv u.1 ∧
    ((u.2 = none ∧ c = .func (.func 159) #[] #[.pointer (some ⟨s1, 0, none⟩), .pointer (some ⟨s2, 0, none⟩)]) ∨
     ∃ s3 vv x,V s3∧Blk w s3 [vv] 42∧OB w D vv x∧u.2=some x∧c=.func (.func 161) #[] #[.pointer (some ⟨s1,0,none⟩),.pointer (some ⟨s2,0,none⟩),.pointer (some ⟨s3,0,none⟩)])
structure oe(V D:Nat->Prop)(w w':World):Prop where
 var:∀ b cs t,V b->Blk w b cs t->(t=40\/t=42)->w'.heap[b]?=w.heap[b]?
 byt:∀ b,b < w.heap.size->D b->(∃ cs,Blk w b cs 5)->w'.heap[b]?=w.heap[b]?
theorem oe.ob(h:oe V D w w')(O:OB w D v l):OB w' D v l :=
 ⟨O.oct,O.ex.imp id (by
  rintro⟨b,c,e,hd,hR⟩
  exact⟨b,c,e,hd,hR.same (h.byt b hR.lt hd hR.kind)⟩)⟩
theorem sK.stay{u:Und}(h:sK w V D g u c)(a:oe V D w w'):sK w' V D g u c:=by
 obtain⟨s1,s2,kv,v1,v2,b1,b,ok,r⟩:=h.ex;refine⟨h.short,s1,s2,kv,v1,v2,b1.same (a.var _ _ _ v1 b1 (.inl rfl)),b.same (a.var _ _ _ v2 b (.inr rfl)),a.ob ok,r.imp id ?_⟩;rintro⟨s3,vv,x,v3,d,f,e⟩;exact⟨s3,vv,x,v3,d.same (a.var _ _ _ v3 d (.inr rfl)),a.ob f,e⟩
theorem sK.mono{u:Und}(h:sK w V D g u c)(a:∀ b,V b->V' b)(d:∀ b,b < w.heap.size->D b->D' b):sK w V' D' g u c:=by
 obtain⟨s1,s2,kv,v1,v2,b1,f,ok,r⟩:=h.ex;refine⟨h.short,s1,s2,kv,a _ v1,a _ v2,b1,f,ok.mono d,r.imp id ?_⟩;rintro⟨s3,vv,x,v3,j,i,e⟩;exact⟨s3,vv,x,a _ v3,j,i.mono d,e⟩
def tw(w:World)(V D:Nat->Prop)(g:Nat)(U:List Und)(cs:List Value):Prop:=cs.length=U.length/\∀ (i:Nat) u c,U[i]?=some u->cs[i]?=some c->sK w V D g u c
theorem tw.stay{U:List Und}(h:tw w V D g U cs)(hs:oe V D w w'):tw w' V D g U cs:=⟨h.1,fun i u c hu hc=>(h.2 i u c hu hc).stay hs⟩
theorem tw.mono{U:List Und}(h:tw w V D g U cs)(hV:∀ b,V b->V' b)(hD:∀ b,b < w.heap.size->D b->D' b):tw w V' D' g U cs:=⟨h.1,fun i u c hu hc=>(h.2 i u c hu hc).mono hV hD⟩
structure Jr where
 U:List Und
 v:Value
 o:Option Nat
def JrA(w:World)(V D:Nat->Prop)(g:Nat)(j:Jr):Prop:=∃ cs,tw w V D g j.U cs/\((j.o=none/\j.v=.slice none 0 0/\j.U=[])\/∃ b c,j.o=some b/\j.v=.slice (some ⟨b,0,none⟩) j.U.length c/\Rw w 1 1 b j.U.length c cs)
theorem JrA.stay{j:Jr}(h:JrA w V D g j)(a:oe V D w w')(ho:∀ b,j.o=some b->w'.heap[b]?=w.heap[b]?):JrA w' V D g j:=by
 obtain⟨cs,hc,r⟩:=h;refine⟨cs,hc.stay a,r.imp id ?_⟩;rintro⟨b,c,e1,e2,d⟩;exact⟨b,c,e1,e2,d.same (ho b e1)⟩
theorem JrA.mono{j:Jr}(h:JrA w V D g j)(hV:∀ b,V b->V' b)(hD:∀ b,b < w.heap.size->D b->D' b):JrA w V' D' g j:=by
 obtain⟨cs,hc,r⟩:=h;exact⟨cs,hc.mono hV hD,r⟩
theorem JrA.kind{j:Jr}(h:JrA w V D g j)(hb:j.o=some b):∃ cs,Blk w b cs 1:=by
 obtain⟨cs,hc,⟨e,_⟩ | ⟨b',c,e,_,hR⟩⟩:=h
 ·rw[hb] at e;cases e
 ·rw[hb] at e;cases e;exact hR.kind
structure JnA(w:World)(V D:Nat->Prop)(g:Nat)(jv:Value)(T:List Jr)(oj:Option Nat):Prop where
 row:(oj=none/\jv=.slice none 0 0/\T=[])\/∃ b c,oj=some b/\jv=.slice (some ⟨b,0,none⟩) T.length c/\Rw w 249 1 b T.length c (T.map Jr.v)
 each:∀ j∈T,JrA w V D g j
 apart:(T.filterMap Jr.o).Nodup
theorem JnA.stay{T:List Jr}(h:JnA w V D g jv T oj)(d:oe V D w w')(ho:∀ b,oj=some b->w'.heap[b]?=w.heap[b]?)(hb:∀ j∈T,∀ b,j.o=some b->w'.heap[b]?=w.heap[b]?):JnA w' V D g jv T oj :=
 ⟨h.row.imp id (by rintro⟨b,c,e1,e2,e⟩;exact⟨b,c,e1,e2,e.same (ho b e1)⟩),fun j a=>(h.each j a).stay d (hb j a),h.apart⟩
theorem JnA.mono{T:List Jr}(h:JnA w V D g jv T oj)(hV:∀ b,V b->V' b)(hD:∀ b,b < w.heap.size->D b->D' b):JnA w V' D' g jv T oj :=
 ⟨h.row,fun j hj=>(h.each j hj).mono hV hD,h.apart⟩
theorem JnA.kind{T:List Jr}(h:JnA w V D g jv T oj)(hb:oj=some b):∃ cs,Blk w b cs 249:=by
 rcases h.row with⟨e,_⟩ | ⟨b',c,e,_,hR⟩
 ·rw[hb] at e;cases e
 ·rw[hb] at e;cases e;exact hR.kind
def tot(T:List Jr):Nat:=(T.map fun j=>j.U.length).sum
structure Own(w:World)(K F V:Nat->Prop)(g:Nat)(T:List Jr)(oj:Option Nat):Prop where
 top:K g
 map:∀ b,F b->K b
 var:∀ b,V b->K b
 jrn:∀ b,oj=some b->K b
 bck:∀ j∈T,∀ b,j.o=some b->K b
 kind:∀ b,K b->∃ cs t,Blk w b cs t/\t≠5
 ub:¬ F g
 yZ:∀ b,V b->¬ F b
 yc:∀ b,oj=some b->¬ F b
 zd:∀ j∈T,∀ b,j.o=some b->¬ F b
 vk:∀ b,V b->∃ cs t,Blk w b cs t/\(t=40\/t=42)
structure SA(w:World)(K D:Nat->Prop)(g:Nat)(E:aC)(W:List aC)(n N:Nat):Prop where
 ex:∃ F V m Q jv T oj,Blk w g [.pointer (some ⟨m,0,none⟩),jv,.int .i64 n] 92/\Mp w F D m Q N/\Q.flatten=E/\JnA w V D g jv T oj/\qF (T.reverse.map Jr.U) W E/\tot T+E.length<=N/\T.length<=0/\Own w K F V g T oj
theorem SA.lt(h:SA w K D g E W n N)(hb:K b):b < w.heap.size:=by
 obtain⟨F,V,m,Q,jv,T,oj,_,_,_,_,_,_,_,O⟩:=h.ex;obtain⟨cs,t,h,_⟩:=O.kind b hb;exact h.lt
theorem SA.top(h:SA w K D g E W n N):K g:=by
 obtain⟨F,V,m,Q,jv,T,oj,_,_,_,_,_,_,_,O⟩:=h.ex;exact O.top
theorem Own.same{F:Nat->Prop}{T:List Jr}(O:Own w K F V g T oj)(h1:∀ b,K b->w'.heap[b]?=w.heap[b]?):Own w' K F V g T oj :=
 ⟨O.top,O.map,O.var,O.jrn,O.bck,fun b hb=>by
  obtain⟨cs,t,hk,a⟩:=O.kind b hb;exact⟨cs,t,hk.same (h1 b hb),a⟩,O.ub,O.yZ,O.yc,O.zd,fun b hv=>by
  obtain⟨cs,t,hk,a⟩:=O.vk b hv
  exact⟨cs,t,hk.same (h1 b (O.var b hv)),a⟩⟩
theorem SA.same(h:SA w K D g E W n N)(h1:∀ b,K b->w'.heap[b]?=w.heap[b]?)(c:∀ b,b < w.heap.size->D b->(∃ cs,Blk w b cs 5)->w'.heap[b]?=w.heap[b]?):SA w' K D g E W n N:=by
 obtain⟨F,V,m,Q,f,T,o,hb,hm,he,l,hk,d,i,O⟩:=h.ex
 have k:oe V D w w':=⟨fun b _ _ hv _ _=>h1 b (O.var b hv),c⟩
 exact⟨F,V,m,Q,f,T,o,hb.same (h1 g O.top),hm.same (fun b hF=>h1 b (O.map b hF)) c,he,l.stay k (fun b e=>h1 b (O.jrn b e)) (fun j a b e=>h1 b (O.bck j a b e)),hk,d,i,O.same h1⟩
theorem SA.keep(h:SA w K D g E W n N)(hb:Below w.heap.size w w'):SA w' K D g E W n N:=h.same (fun b hK=>hb.block b (h.lt hK)) (fun b hl _ _=>hb.block b hl)
theorem SA.chg{a:Nat->Prop}(h:SA w K D g E W n N)(hc:Chg a w w')(h1:∀ b,a b->¬ K b)(e:∀ b,a b->∀ cs,¬ Blk w b cs 5):SA w' K D g E W n N :=
 h.same (fun b c=>hc.same b (h.lt c) fun f=>h1 b f c) (fun b d _ hk=>hc.same b d fun f=>by obtain⟨cs,k⟩:=hk;exact e b f cs k)
theorem SA.mono(h:SA w K D g E W n N)(a:∀ b,b < w.heap.size->D b->D' b):SA w K D' g E W n N:=by
 obtain⟨F,V,m,Q,f,T,i,hb,hm,he,e,hk,d,c,O⟩:=h.ex;exact⟨F,V,m,Q,f,T,i,hb,hm.mono a,he,e.mono (fun _ h=>h) a,hk,d,c,O⟩
theorem SA.more{N':Nat}(h:SA w K D g E W n N)(a:N<=N'):SA w K D g E W n N':=by
 obtain⟨F,V,m,Q,e,T,f,hb,hm,he,d,hk,c,b,O⟩:=h.ex;exact⟨F,V,m,Q,e,T,f,hb,hm.more a,he,d,hk,Nat.le_trans c a,b,O⟩
theorem SA.size(h:SA w K D g E W n N):E.length<=N:=by
 obtain⟨F,V,m,Q,jv,T,oj,hb,hm,rfl,_⟩:=h.ex;exact hm.len
theorem SA.small(h:SA w K D g E W n N):∀ x∈E,x.1.length<=1000000000/\x.2.length<=1000000000:=by
 obtain⟨F,V,m,Q,jv,T,oj,hb,hm,rfl,_⟩:=h.ex;exact hm.small
end
end Kv
end
section
namespace Kv
open Go.RowKit Go.Lib Pg
attribute [local go_sem] Oper.semAt_some
section
variable {w w':World}{K D F V:Nat->Prop}{g n N m:Nat}{E:aC}{W:List aC}{Q:List (List KV)}{jv kv:Value}{T:List Jr}{oj:Option Nat}{x:Int}{cs:List Value}{ao:Option Addr}{k:List Int}
structure SX(w:World)(K D F V:Nat->Prop)(g m:Nat)(Q:List (List KV))(jv:Value)(T:List Jr)(oj:Option Nat)(n N:Nat):Prop where
 blk:Blk w g [.pointer (some ⟨m,0,none⟩),jv,.int .i64 n] 92
 map:Mp w F D m Q N
 jn:JnA w V D g jv T oj
 tot:tot T+Q.flatten.length<=N
 len:T.length<=0
 own:Own w K F V g T oj
theorem SA.open(h:SA w K D g E W n N):∃ F V m Q jv T oj,SX w K D F V g m Q jv T oj n N/\Q.flatten=E/\qF (T.reverse.map Jr.U) W E:=by
 obtain⟨F,V,m,Q,jv,T,oj,hb,hm,he,c,hk,b,a,O⟩:=h.ex;exact⟨F,V,m,Q,jv,T,oj,⟨hb,hm,c,by rw[he];exact b,a,O⟩,he,hk⟩
theorem SX.shut(h:SX w K D F V g m Q jv T oj n N)(he:Q.flatten=E)(hk:qF (T.reverse.map Jr.U) W E):SA w K D g E W n N :=
 ⟨F,V,m,Q,jv,T,oj,h.blk,h.map,he,h.jn,hk,by have:=h.tot;rw[he] at this;exact this,h.len,h.own⟩
theorem uZ{x:Nat}{t:TypeId}(hx:Blk w x cs t)(h1:t≠40)(f:t≠42)(h:t≠5)(hc:Chg (·=x) w w'):oe V D w w' :=
 ⟨fun b a i _ hb g=>hc.same b hb.lt (fun e=>by
  have c:b=x:=e;subst c;have:=(hx.eq hb).2;subst this;exact g.elim h1 f),fun b d _ hk=>hc.same b d (fun e=>by
  have c:b=x:=e;subst c;obtain⟨a,k⟩:=hk
  exact h (hx.eq k).2)⟩
theorem Own.chg1{x:Nat}(O:Own w K F V g T oj)(f:oe V D w w')(hc:Chg (·=x) w w'){t:TypeId}(hx:Blk w' x cs t)(ht:t≠5):Own w' K F V g T oj :=
 ⟨O.top,O.map,O.var,O.jrn,O.bck,fun b hb=>by
  by_cases e:b=x
  ·subst e;exact⟨cs,t,hx,ht⟩
  ·obtain⟨c,d,hk,a⟩:=O.kind b hb;exact⟨c,d,hk.chg hc e,a⟩,O.ub,O.yZ,O.yc,O.zd,fun b hv=>by
  obtain⟨cs,t,hk,ht⟩:=O.vk b hv
  exact⟨cs,t,hk.same (f.var b cs t hv hk ht),ht⟩⟩
theorem SX.top{d:Nat}(h:SX w K D F V g m Q jv T oj n N)(hc:Chg (·=g) w w')(hb:Blk w' g [.pointer (some ⟨m,0,none⟩),jv,.int .i64 d] 92):SX w' K D F V g m Q jv T oj d N :=
 ⟨hb,h.map.chg hc (fun b e hF=>h.own.ub (by have c:b=g:=e; exact c▸hF)) (fun b e cs k=>by
   have c:b=g:=e;subst c
   exact absurd (h.blk.eq k).2 (by decide)),h.jn.stay (uZ h.blk (by decide) (by decide) (by decide) hc)
   (fun b e=>by
    obtain⟨cs,k⟩:=h.jn.kind e
    exact hc.same b k.lt (fun c=>by
     have a:b=g:=c;subst a
     exact absurd (h.blk.eq k).2 (by decide)))
   (fun j f b e=>by
    obtain⟨cs,k⟩:=(h.jn.each j f).kind e
    exact hc.same b k.lt (fun c=>by
     have a:b=g:=c;subst a
     exact absurd (h.blk.eq k).2 (by decide))),h.tot,h.len,h.own.chg1 (uZ (D:=D) h.blk (by decide) (by decide) (by decide) hc) hc hb (by decide)⟩
theorem SX.keep(h:SX w K D F V g m Q jv T oj n N)(hb:Below w.heap.size w w'):SX w' K D F V g m Q jv T oj n N:=by
 have a:∀ b,K b->w'.heap[b]? = w.heap[b]? := fun b f=>by
  obtain⟨cs,t,k,_⟩:=h.own.kind b f;exact hb.block b k.lt
 exact⟨h.blk.keep hb,h.map.keep hb,h.jn.stay ⟨fun b _ _ _ k _=>hb.block b k.lt,fun b c _ _=>hb.block b c⟩ (fun b e=>a b (h.own.jrn b e)) (fun j d b e=>a b (h.own.bck j d b e)),h.tot,h.len,h.own.same a⟩
theorem uz{a:Addr}(hc:w.cell? a=some (.int .i64 x))(b:w.frozen? a=false)(c:0<=x)(h1:x<=4000000000000000000) :
  (callFunc 158 #[.pointer (some a),.int .i64 1]).run Tryz.prog w=.ok (.value (.int .i64 (x+1))) (w.setCell a (.int .i64 (x+1))) :=
 run_call_add Tryz.func158 (by kernel_rfl) (by kernel_rfl) (by kernel_rfl) .i64 (by kernel_rfl) hc b (by
  have e:IntKind.i64.wrap (x+1)=x+1:=by rw[IntKind.wrap_i64];omega
  simp[Op.intArith,e])
theorem Bt(hc:w.cell? ⟨g,2,none⟩=some (.int .i64 x))(d:w.frozen? ⟨g,2,none⟩=false)(c:0<=x)(h1:x<=4000000000000000000) :
  Calls Tryz.prog 96 #[.pointer (some ⟨g,2,none⟩),.int .i64 1] w fun e w'=>e=.returned (.int .i64 (x+1))/\w'=w.setCell ⟨g,2,none⟩ (.int .i64 (x+1)):=by
 have b:=uz hc d c h1;go_enter Tryz.func96,Tryz.ntmps96;go_wp2_with (simp only[b]);go_ret;exact⟨rfl,rfl⟩
theorem kN(hc:w.cell? ⟨g,2,none⟩=some (.int .i64 x))(b:w.frozen? ⟨g,2,none⟩=false)(c:0<=x)(h1:x<=4000000000000000000) :
  Calls Tryz.prog 48 #[.pointer (some ⟨g,0,none⟩)] w fun e w'=>e=.returned (.tuple #[])/\w'=w.setCell ⟨g,2,none⟩ (.int .i64 (x+1)):=by
 have u:=Bt hc b c h1;clear hc b;go_enter Tryz.func48,Tryz.ntmps48;go_wp2_with (go_at_call 96;refine u.mono ?_;rintro e d ⟨rfl,rfl⟩);go_end0;exact⟨rfl,rfl⟩
theorem jq(h:SX w K D F V g m Q jv T oj n N)(hn:n<=4000000000000000000) :
  Calls Tryz.prog 48 #[.pointer (some ⟨g,0,none⟩)] w fun e w'=>e=.returned (.tuple #[])/\SX w' K D F V g m Q jv T oj (n+1) N/\Chg (·=g) w w':=by
 refine(kN (h.blk.cell (i:=2) rfl) (h.blk.free 2) (by omega) (by omega)).mono ?_
 rintro e w' ⟨rfl,rfl⟩
 have hc:Chg (·=g) w (w.setCell ⟨g,2,none⟩ (.int .i64 ((n:Int)+1))):=(Chg.refl (·=g) w).cell (.inl rfl) _;refine⟨rfl,h.top hc ?_,hc⟩;have:=h.blk.setCell (i:=2) (.int .i64 ((n:Int)+1));exact this
theorem wA{c:Nat}{d b:Value}(h:Blk w g [d,.slice ao n c,b] 92) :
  Calls Tryz.prog 97 #[.pointer (some ⟨g,0,none⟩)] w fun e w'=>e=.returned (.int .i64 n)/\w'=w:=by
 have c1:=h.cell (i:=1) rfl;clear h;go_enter Tryz.func97,Tryz.ntmps97;go_wp2;go_ret;exact⟨rfl,rfl⟩
theorem JnA.shape(h:JnA w V D g jv T oj):∃ ao c,jv=.slice ao T.length c:=by
 rcases h.row with⟨_,e,rfl⟩ | ⟨b,c,_,e,_⟩
 ·exact⟨none,0,e⟩
 ·exact⟨_,c,e⟩
theorem xdepth(h:SX w K D F V g m Q jv T oj n N) :
  Calls Tryz.prog 97 #[.pointer (some ⟨g,0,none⟩)] w fun e w'=>e=.returned (.int .i64 T.length)/\w'=w:=by
 obtain⟨a,c,e⟩:=h.jn.shape;have hb:=h.blk;rw[e] at hb;exact wA hb
theorem snew:Calls Tryz.prog 13 #[] w fun e w'=>∃ g K,e=.returned (.pointer (some ⟨g,0,none⟩))/\SA w' K (fun _=>False) g [] [] 0 0/\(∀ b,K b->w.heap.size<=b)/\Below w.heap.size w w':=by
 have u:=mnew (w:=w);go_enter Tryz.func13,Tryz.ntmps13;go_wp2_with (go_at_call 41;refine u.mono ?_;rintro e c ⟨rfl,M,B⟩);go_ret;have d:=M.lt (b:=w.heap.size) rfl;have al:=ai c (.cells #[.pointer (some ⟨w.heap.size,0,none⟩),.slice none 0 0,.int .i64 0] 92);have bl:=aJ c [.pointer (some ⟨w.heap.size,0,none⟩),.slice none 0 0,.int .i64 0] 92;have M2:=M.keep al;refine⟨c.heap.size,fun b=>b=w.heap.size\/b=c.heap.size,rfl,⟨_,fun _=>False,_,_,_,[],none,bl,M2,rfl,⟨.inl ⟨rfl,rfl,rfl⟩,fun _ h=>by simp at h,List.nodup_nil⟩,trivial,by decide,by decide,?_⟩,fun b hb=>by have:=B.size;omega,aj B al⟩;refine⟨.inr rfl,fun b hb=>.inl hb,fun _ h=>h.elim,(fun _ h=>by cases h),(fun _ h=>by simp at h),fun b hb=>?_,(fun h=>by have f:c.heap.size=w.heap.size:=h;omega),fun _ h=>h.elim,(fun _ h=>by cases h),(fun _ h=>by simp at h),fun _ h=>h.elim⟩;rcases hb with rfl | rfl
 ·obtain⟨L,_,A,_⟩:=M2.ex;exact A.kind _ rfl
 ·exact⟨_,_,bl,by decide⟩
theorem ry(h:SX w K D F V g m Q jv T oj n N)(hk:By w kv k)(a:N<=100000000) :
  Calls Tryz.prog 150 #[.pointer (some ⟨m,0,none⟩),kv] w fun e w'=>∃ v,e=.returned (.tuple #[v,.bool (look Q.flatten k).isSome])/\OB w' (w.heap.size <= ·) v ((look Q.flatten k).getD [])/\Below w.heap.size w w':=by
 have u:=mget h.map hk a;rw[Bi h.map.ord,mO h.map.ord] at u;exact u
theorem zJ(h:SX w K D F V g m Q jv T oj n N)(hk:By w kv k)(b:N<=100000000) :
  Calls Tryz.prog 170 #[.pointer (some ⟨g,0,none⟩),kv] w fun e w'=>e=.returned (.bool (look Q.flatten k).isSome)/\Below w.heap.size w w':=by
 have c0:=h.blk.cell (i:=0) rfl;have u:=ry h hk b;obtain⟨f,c,rfl,-⟩:=id hk.ex;generalize (look Q.flatten k).isSome=r at *;generalize (look Q.flatten k).getD []=L at *;clear h hk;go_enter Tryz.func170,Tryz.ntmps170;go_wp2_with (go_at_call 150;refine u.mono ?_;rintro e d ⟨v,rfl,O,B⟩;obtain⟨a1,c1,rfl,-⟩:=id O.by.ex);go_ret;exact⟨rfl,B⟩
end
section
variable {w:World}{g:Nat}{Q Q':List (List KV)}{jv v:Value}{T:List Jr}{oj:Option Nat}
theorem aQ{p:Prop}(h:p):Hid p:=h
theorem SX.mapped{w':World}{K D D' F F' V:Nat->Prop}{m:Nat}{n N N':Nat}(h:SX w K D F V g m Q jv T oj n N)(s:Kv.tot T+Q'.flatten.length<=N')(l:Mp w' F' D' m Q' N')(hF:∀ b,F' b->F b\/w.heap.size<=b)(q:∀ b,D b->D' b)(hc:Chg F w w') :
  SX w' (fun b=>(K b/\¬ F b)\/F' b) D' F' V g m Q' jv T oj n N':=by
 have i:∀ b,K b->b < w.heap.size:=fun b hb=>by obtain⟨cs,t,k,_⟩:=h.own.kind b hb;exact k.lt
 have no:∀ b,K b->¬ F b->¬ F' b:=fun b hb hn hf=>by
  rcases hF b hf with o | o
  ·exact hn o
  ·have:=i b hb;omega
 have p:oe V D w w':=⟨fun b _ _ hv k _=>hc.same b k.lt (h.own.yZ b hv),fun b r _ k=>hc.same b r (fun f=>by obtain⟨cs,k⟩:=k;exact h.map.noU f cs k)⟩
 have a:JnA w' V D g jv T oj:=h.jn.stay p (fun b e=>hc.same b (i b (h.own.jrn b e)) (h.own.yc b e)) (fun j a b e=>hc.same b (i b (h.own.bck j a b e)) (h.own.zd j a b e))
 refine⟨h.blk.chg hc h.own.ub,l,a.mono (fun _ h=>h) (fun b _=>q b),s,h.len,.inl ⟨h.own.top,h.own.ub⟩,fun b=>.inr,fun b hb=>.inl ⟨h.own.var b hb,h.own.yZ b hb⟩,fun b hb=>.inl ⟨h.own.jrn b hb,h.own.yc b hb⟩,fun j a b hb=>.inl ⟨h.own.bck j a b hb,h.own.zd j a b hb⟩,fun b hb => ?_,no g h.own.top h.own.ub,fun b hb=>no b (h.own.var b hb) (h.own.yZ b hb),fun b hb=>no b (h.own.jrn b hb) (h.own.yc b hb),fun j a b hb=>no b (h.own.bck j a b hb) (h.own.zd j a b hb),fun b hv=>by
  obtain⟨cs,t,k,c⟩:=h.own.vk b hv
  exact⟨cs,t,k.same (p.var b cs t hv k c),c⟩⟩
 have d:∀ b,F' b->∃ cs t,Blk w' b cs t/\t≠5:=fun b hf=>by
  obtain⟨L,_,A,_⟩:=l.ex;exact A.kind b hf
 rcases hb with⟨hb,hf⟩ | hb
 ·obtain⟨cs,t,k,c⟩:=h.own.kind b hb;exact⟨cs,t,k.chg hc hf,c⟩
 ·exact d b hb
theorem ld_mp{o:Nat}(c:w.cell? ⟨g,o,none⟩=some v):(loadVar 83 ⟨g,o,none⟩).run Tryz.prog w=.ok v w:=by go_simp
end
end Kv
end
section
namespace Kv
open Go.RowKit Go.Lib Pg
section
variable {w:World} {b n c i:Nat} {xs:List Value}
end
end Kv
end
section
namespace Kv
open Go.RowKit Go.Lib Pg
attribute [local go_sem] Oper.semAt_some
section
variable {w:World}{K:Nat->Prop}{Q:List (List KV)}{jv kv:Value}{oj:Option Nat}{k:List Int}
theorem mh{D F V:Nat->Prop}{g m:Nat}{n N:Nat}(h:SX w K D F V g m Q jv [] oj n N) :
  Calls Tryz.prog 49 #[.pointer (some ⟨g,0,none⟩),kv] w fun e w'=>e=.returned (.tuple #[])/\w'=w:=by
 have b:=xdepth h;clear h;go_enter Tryz.func49,Tryz.ntmps49;go_wp2_with (go_at_call 97;go_must (refine b.mono ?_);rintro e y ⟨rfl,hy⟩;replace hy:=hy.symm;subst hy);go_end0;exact⟨rfl,rfl⟩
def BK(w:World)(K:Nat->Prop)(kv:Value)(k:List Int):Prop:=∀ w',Chg K w w'->By w' kv k
theorem BK.by(h:BK w K kv k):By w kv k:=h w (Chg.refl _ _)
theorem BK.shape(h:BK w K kv k):∃ ao c,kv=.slice ao k.length c:=by
 obtain⟨ao,c,e,_⟩:=h.by.ex
 exact⟨ao,c,e⟩
theorem jQ{w1 w2:World}(h:Chg K w w1)(h':Chg K w1 w2):Chg K w w2:=h.trans h' (fun _ _ h=>h)
end
section
variable {W:List aC}{E:aC}{w w':World}{K D F V:Nat->Prop}{g m n N:Nat}{Q:List (List KV)}{jv kv vv:Value}{T:List Jr}{oj:Option Nat}{k v:List Int}
theorem rE{E':aC}(h:qF [] W E):qF [] W E':=by
 cases W with
 | nil=>trivial
 | cons e W=>exact h.elim
def gZ(k v:List Int):Int:=if k.length=0\/64 < k.length then 60 else if 4096 < v.length then 61 else 0
def Ends(w:World)(K D:Nat->Prop)(g:Nat)(E:aC)(W:List aC)(n N:Nat)(r:Value)(e:Ending)(w':World):Prop:=e=.returned r/\∃ K',SA w' K' (fun b=>D b\/w.heap.size<=b) g E W n N/\(∀ b,K' b->K b\/w.heap.size<=b)/\Chg K w w'
theorem SX.kg(h:SX w K D F V g m Q jv T oj n N)(hc:Chg (·=g) w w'):Chg K w w':=hc.mono (fun b _ e=>by have e':b=g:=e;subst e';exact h.own.top)
theorem xh(h:SA w K D g E W n N)(hk:BK w K kv k)(hv:BK w K vv v)(hn:n<=4000000000000000000)(s:k.length=0) :
  Calls Tryz.prog 15 #[.pointer (some ⟨g,0,none⟩),kv,vv] w (Ends w K D g E W (n+1) (N+2) (.int .i64 60)):=by
 obtain⟨F,V,m,Q,x,T,A,hX,f,i⟩:=h.open;obtain⟨t,c,rfl⟩:=hk.shape;obtain⟨y,d,rfl⟩:=hv.shape;have u:=jq hX hn;have q:=aQ hX;have o:=aQ f;have j:=aQ i;generalize k.length=kn at *;generalize v.length=z at *
 have g0:(kn:Int)=0:=by omega
 clear hX f i h hk hv;go_enter Tryz.func15,Tryz.ntmps15;go_wp2_with (go_at_call 48;go_must (refine u.mono ?_);rintro e r ⟨rfl,p,l⟩);go_ret;exact⟨rfl,K,(p.shut o.out j.out).more (by omega) |>.mono (fun _ _ h=>.inl h),fun b h=>.inl h,q.out.kg l⟩
theorem wI(h:SA w K D g E W n N)(hk:BK w K kv k)(hv:BK w K vv v)(hn:n<=4000000000000000000)(s:¬ k.length=0)(h1:64 < k.length) :
  Calls Tryz.prog 15 #[.pointer (some ⟨g,0,none⟩),kv,vv] w (Ends w K D g E W (n+1) (N+2) (.int .i64 60)):=by
 obtain⟨F,V,m,Q,x,T,A,hX,f,i⟩:=h.open;obtain⟨t,c,rfl⟩:=hk.shape;obtain⟨y,d,rfl⟩:=hv.shape;have u:=jq hX hn;have q:=aQ hX;have o:=aQ f;have j:=aQ i;generalize k.length=kn at *;generalize v.length=z at *
 have g0:((kn:Int)=0)=False:=eq_false (by omega)
 have g1:(64:Int) < kn:=by omega
 clear hX f i h hk hv;go_enter Tryz.func15,Tryz.ntmps15;go_wp2_with (go_at_call 48;go_must (refine u.mono ?_);rintro e r ⟨rfl,p,l⟩);go_ret;exact⟨rfl,K,(p.shut o.out j.out).more (by omega) |>.mono (fun _ _ h=>.inl h),fun b h=>.inl h,q.out.kg l⟩
theorem Ag(h:SA w K D g E W n N)(hk:BK w K kv k)(hv:BK w K vv v)(hn:n<=4000000000000000000)(x:¬ k.length=0)(h1:¬ 64 < k.length)(t:4096 < v.length) :
  Calls Tryz.prog 15 #[.pointer (some ⟨g,0,none⟩),kv,vv] w (Ends w K D g E W (n+1) (N+2) (.int .i64 61)):=by
 obtain⟨F,V,m,Q,z,T,B,hX,f,i⟩:=h.open;obtain⟨y,c,rfl⟩:=hk.shape;obtain⟨A,d,rfl⟩:=hv.shape;have u:=jq hX hn;have r:=aQ hX;have p:=aQ f;have j:=aQ i;generalize k.length=kn at *;generalize v.length=o at *
 have g0:((kn:Int)=0)=False:=eq_false (by omega)
 have g1:((64:Int) < kn)=False:=eq_false (by omega)
 have g2:(4096:Int) < o:=by omega
 clear hX f i h hk hv;go_enter Tryz.func15,Tryz.ntmps15;go_wp2_with (go_at_call 48;go_must (refine u.mono ?_);rintro e s ⟨rfl,q,l⟩);go_ret;exact⟨rfl,K,(q.shut p.out j.out).more (by omega) |>.mono (fun _ _ h=>.inl h),fun b h=>.inl h,r.out.kg l⟩
theorem xW(hX:SX w K D F V g m Q jv [] oj n N)(B:qF ([].reverse.map Jr.U) W Q.flatten)(hk:BK w K kv k)(hv:BK w K vv v)(hn:n<=4000000000000000000)(r:N+2<=100000000)(H:¬ k.length=0)(h1:¬ 64 < k.length)(C:¬ 4096 < v.length) :
  Calls Tryz.prog 15 #[.pointer (some ⟨g,0,none⟩),kv,vv] w (Ends w K D g (put Q.flatten k v) W (n+1) (N+2) (.int .i64 0)):=by
 obtain⟨M,c,rfl⟩:=hk.shape;obtain⟨O,d,rfl⟩:=hv.shape;have u:=jq hX hn;have s:=aQ hX;have J:=aQ B;have z:=aQ hk;have A:=aQ hv;have o:=aQ (show k.length<=64 by omega);have p:=aQ (show v.length<=4096 by omega);replace r:N<=99999998:=by omega
 have I:=r;replace r:N<=100000000:=by omega
 have g0:((k.length:Int)=0)=False:=eq_false (by omega)
 have g1:((64:Int) < k.length)=False:=eq_false (by omega)
 have g2:¬ ((4096:Int) < v.length):=by omega
 clear hX B hk hv;obtain⟨kn,l⟩:∃ kn,Hid (k.length=kn):=⟨_,rfl⟩
 obtain⟨t,q⟩:∃ t,Hid (v.length=t):=⟨_,rfl⟩
 rw[l.out] at g0 g1 z H h1 ⊢;rw[q.out] at g2 A C ⊢;go_enter Tryz.func15,Tryz.ntmps15;go_wp2_with first
  | (go_at_call 48;go_must (refine u.mono ?_);rintro e P ⟨rfl,f,j⟩)
  | (go_at_call 49;go_must (refine(mh f).mono ?_);rintro e y ⟨rfl,hy⟩;replace hy:=hy.symm;subst hy;have c0:=f.blk.cell (i:=0) rfl;have us:=mset f.map (z.out _ (s.out.kg j)) (A.out _ (s.out.kg j)) (by have:=o.out;omega) (by have:=p.out;omega) (by omega))
  | (go_at_call 50;go_must (refine us.mono ?_);rintro e R ⟨rfl,S,G,hF,x⟩)
 go_ret;have L:=f.mapped (N':=N+1) (by have:=f.tot;have:=Ct f.map.ord.flat k v;rw[oE f.map.ord];omega) G hF (fun _ h=>.inl h) x;refine⟨rfl,_,((L.shut (E:=put Q.flatten k v) (W:=W) (oE f.map.ord k v) (rE J.out)).more (by omega)).mono (fun b _ hb=>?_),fun b hb=>?_,?_⟩
 ·rcases hb with hb | hb
  ·exact .inl hb
  ·exact .inr (by have:=j.size;omega)
 ·rcases hb with⟨hb,_⟩ | hb
  ·exact .inl hb
  ·rcases hF b hb with h1 | h1
   ·exact .inl (f.own.map b h1)
   ·exact .inr (by have:=j.size;omega)
 ·exact jQ (s.out.kg j) (x.mono (fun b _ h=>f.own.map b h))
theorem sset(h:SA w K D g E W n N)(hk:BK w K kv k)(hv:BK w K vv v)(hn:n<=4000000000000000000)(d:N+2<=100000000) :
  Calls Tryz.prog 15 #[.pointer (some ⟨g,0,none⟩),kv,vv] w (Ends w K D g (if gZ k v=0 then put E k v else E) W (n+1) (N+2) (.int .i64 (gZ k v))):=by
 by_cases a:k.length=0
 ·have e:gZ k v=60:=by unfold gZ; rw[if_pos (.inl a)]
  rw[e,if_neg (by decide)];exact xh h hk hv hn a
 ·by_cases c:64 < k.length
  ·have e:gZ k v=60:=by unfold gZ; rw[if_pos (.inr c)]
   rw[e,if_neg (by decide)];exact wI h hk hv hn a c
  ·by_cases b:4096 < v.length
   ·have e:gZ k v=61:=by unfold gZ; rw[if_neg (by omega),if_pos b]
    rw[e,if_neg (by decide)];exact Ag h hk hv hn a c b
   ·have e:gZ k v=0:=by unfold gZ; rw[if_neg (by omega),if_neg b]
    rw[e,if_pos rfl];obtain⟨F,V,m,Q,i,T,o,hX,rfl,f⟩:=h.open;rcases List.eq_nil_or_concat T with rfl | ⟨l,j,rfl⟩
    ·exact xW hX f hk hv hn d a c b
    ·exact absurd hX.len (by simp)
end
end Kv
end
end Go.Proofs.YtgdohcdlkonhiaaGreatDoor
