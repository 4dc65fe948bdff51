/- Several texts, joined: KvT, PgMp, KvM, KvO, KvP, KvQ, KvD, KvR, KvS, KvU, KvV. -/
import Derived.Test.YthfepflplbahkaaGreatDoorJah
import Derived.Laws.LoneSync
set_option maxRecDepth 100000
set_option maxHeartbeats 8000000
namespace Go.Proofs.YthfepflplbahkaaGreatDoor
section
namespace Kv
open Pg
section
variable {k x v:List Int}{Q:List (List KV)}
abbrev aI:=List KV
def eP(E:aI):Prop:=E.Pairwise fun x y=>Lt x.1 y.1
def look(E:aI)(k:List Int):Option (List Int):=(E.find? (fun x=>decide (x.1=k))).map Prod.snd
def put(E:aI)(k v:List Int):aI:=E.filter (fun x=>decide (Lt x.1 k)) ++ (k,v) :: E.filter (fun x=>decide (Lt k x.1))
def rem(E:aI)(k:List Int):aI:=E.filter (fun x=>decide (¬ x.1=k))
theorem ep{α:Type}{p:α->Bool}{l:List α}(h:∀ x∈l,p x=true):l.filter p=l:=List.filter_eq_self.2 h
theorem iE{α:Type}{p:α->Bool}{l:List α}(h:∀ x∈l,p x=false):l.filter p=[]:=List.filter_eq_nil_iff.2 (fun x hx=>by rw[h x hx]; simp)
structure Cut(k:List Int)(X Y:aI):Prop where
 lo:∀ x∈X,Lt x.1 k
 hi:∀ y∈Y,Lt k y.1
theorem Cut.nx{X Y:aI}(h:Cut k X Y):∀ x∈X,¬ x.1=k:=fun x hx e=>by have:=h.lo x hx; rw[e] at this; exact lt_irrefl _ this
theorem Cut.ny{X Y:aI}(h:Cut k X Y):∀ x∈Y,¬ x.1=k:=fun x hx e=>by have:=h.hi x hx; rw[e] at this; exact lt_irrefl _ this
theorem AR{X:aI}(h:∀ x∈X,¬ x.1=k):look X k=none:=by
 unfold look;rw[List.find?_eq_none.2 (fun x hx=>by simp[h x hx])];rfl
theorem rm{X Y:aI}(h:∀ x∈X,¬ x.1=k):look (X ++ Y) k=look Y k:=by
 unfold look;rw[List.find?_append,List.find?_eq_none.2 (fun x hx=>by simp[h x hx])];simp
theorem Cut.rJ{X Y:aI}(h:Cut k X Y):look (X ++ Y) k=none:=by rw[rm h.nx,AR h.ny]
theorem Cut.n6{X Y:aI}(h:Cut k X Y):look (X ++ (k,x) :: Y) k=some x:=by
 rw[rm h.nx];simp[look]
theorem Cut.wE{X Y:aI}(h:Cut k X Y):put (X ++ Y) k v=X ++ (k,v) :: Y:=by
 unfold put;rw[List.filter_append,List.filter_append,ep (l:=X) (fun x hx=>decide_eq_true (h.lo x hx)),iE (l:=Y) (fun x hx=>decide_eq_false (h.hi x hx).not),iE (l:=X) (fun x hx=>decide_eq_false (h.lo x hx).not),ep (l:=Y) (fun x hx=>decide_eq_true (h.hi x hx))];simp
theorem Cut.wG{X Y:aI}(h:Cut k X Y):put (X ++ (k,x) :: Y) k v=X ++ (k,v) :: Y:=by
 unfold put;rw[List.filter_append,List.filter_append,ep (l:=X) (fun x hx=>decide_eq_true (h.lo x hx)),iE (l:=X) (fun x hx=>decide_eq_false (h.lo x hx).not),List.filter_cons,List.filter_cons,iE (l:=Y) (fun x hx=>decide_eq_false (h.hi x hx).not),ep (l:=Y) (fun x hx=>decide_eq_true (h.hi x hx)),decide_eq_false (lt_irrefl k)];simp
theorem Cut.xb{X Y:aI}(h:Cut k X Y):rem (X ++ Y) k=X ++ Y:=by
 unfold rem;rw[List.filter_append,ep (l:=X) (fun x hx=>decide_eq_true (h.nx x hx)),ep (l:=Y) (fun x hx=>decide_eq_true (h.ny x hx))]
theorem Cut.CJ{X Y:aI}(h:Cut k X Y):rem (X ++ (k,x) :: Y) k=X ++ Y:=by
 unfold rem;rw[List.filter_append,ep (l:=X) (fun x hx=>decide_eq_true (h.nx x hx)),List.filter_cons,ep (l:=Y) (fun x hx=>decide_eq_true (h.ny x hx))];simp
theorem pw{X Y:aI}(h:eP (X ++ (k,x) :: Y)):Cut k X Y:=by
 unfold eP at h;rw[List.pairwise_append,List.pairwise_cons] at h;exact⟨fun a ha=>h.2.2 a ha (k,x) List.mem_cons_self,fun b hb=>h.2.1.1 b hb⟩
theorem eP.cut{E:aI}(h:eP E)(k:List Int):∃ X Y,Cut k X Y/\((E=X ++ Y/\look E k=none)\/∃ x,E=X ++ (k,x) :: Y/\look E k=some x):=by
 induction E with
 | nil=>exact⟨[],[],⟨fun _ h=>by simp at h,fun _ h=>by simp at h⟩,.inl ⟨rfl,rfl⟩⟩
 | cons a E ih =>
  have h':=h;unfold eP at h';rw[List.pairwise_cons] at h';rcases oN a.1 k with hl | he | hg
  ·obtain⟨X,Y,c,r⟩:=ih h'.2
   have hc:Cut k (a :: X) Y:=⟨fun x hx=>by
    rcases List.mem_cons.1 hx with rfl | hx
    ·exact hl
    ·exact c.lo x hx,c.hi⟩
   refine⟨a :: X,Y,hc,?_⟩;rcases r with⟨e,_⟩ | ⟨x,e,_⟩
   ·subst e; exact .inl ⟨rfl,hc.rJ⟩
   ·subst e; exact .inr ⟨x,rfl,hc.n6⟩
  ·have hc:Cut k [] E:=⟨fun _ h=>by simp at h,fun y hy=>by rw[<- he]; exact h'.1 y hy⟩
   obtain⟨ak,av⟩:=a;simp only at he;subst he;exact⟨[],E,hc,.inr ⟨av,rfl,hc.n6⟩⟩
  ·have hc:Cut k [] (a :: E):=⟨fun _ h=>by simp at h,fun y hy=>by
    rcases List.mem_cons.1 hy with rfl | hy
    ·exact hg
    ·exact hg.trans (h'.1 y hy)⟩
   exact⟨[],a :: E,hc,.inl ⟨rfl,hc.rJ⟩⟩
theorem qF{X Y:aI}(h:eP (X ++ Y))(c:Cut k X Y):eP (X ++ (k,v) :: Y):=by
 unfold eP at h ⊢;rw[List.pairwise_append] at h;rw[List.pairwise_append,List.pairwise_cons];refine⟨h.1,⟨fun y hy=>c.hi y hy,h.2.1⟩,fun x hx y hy => ?_⟩;rcases List.mem_cons.1 hy with rfl | hy
 ·exact c.lo x hx
 ·exact h.2.2 x hx y hy
theorem yR{X Y:aI}(h:eP (X ++ (k,v) :: Y)):eP (X ++ Y):=by
 unfold eP at h ⊢;rw[List.pairwise_append,List.pairwise_cons] at h;rw[List.pairwise_append];exact⟨h.1,h.2.1.2,fun x hx y hy=>h.2.2 x hx y (List.mem_cons_of_mem _ hy)⟩
theorem eP.put{E:aI}(h:eP E)(k v:List Int):eP (put E k v):=by
 obtain⟨X,Y,c,⟨rfl,_⟩ | ⟨x,rfl,_⟩⟩:=h.cut k
 ·rw[c.wE]; exact qF h c
 ·rw[c.wG]; exact qF (yR h) c
theorem eP.rem{E:aI}(h:eP E)(k:List Int):eP (rem E k):=List.Pairwise.filter _ h
abbrev Und:=List Int × Option (List Int)
def zE(E:aI)(u:Und):aI:=match u.2 with
 | none=>rem E u.1
 | some v=>put E u.1 v
theorem Aq{E:aI}(h:eP E)(k v:List Int):zE (put E k v) (k,look E k)=E:=by
 obtain⟨X,Y,c,⟨rfl,e⟩ | ⟨x,rfl,e⟩⟩:=h.cut k
 ·rw[e,c.wE]; exact c.CJ
 ·rw[e,c.wG]; exact c.wG
theorem Au{E:aI}(h:eP E)(k:List Int):zE (rem E k) (k,look E k)=E:=by
 obtain⟨X,Y,c,⟨rfl,e⟩ | ⟨x,rfl,e⟩⟩:=h.cut k
 ·rw[e,c.xb]; exact c.xb
 ·rw[e,c.CJ]; exact c.wE
def uM(U:List Und)(E:aI):aI:=U.foldr (fun u E=>zE E u) E
theorem sG(U:List Und)(u:Und)(E:aI):uM (U ++ [u]) E=uM U (zE E u):=by simp[uM]
def kB:List (List Und)->List aI->aI->Prop
 | [],[],_=>True
 | U :: J,e :: W,E=>uM U E=e/\kB J W e
 | _,_,_=>False
theorem iF(h:kt Q)(k v:List Int):(wj Q k v).flatten=put Q.flatten k v:=by
 cases hh:gI Q k
 ·obtain⟨X,Y,e1,e2,h1,h2⟩:=h.iz v hh;rw[e1,e2,Cut.wE ⟨h1,h2⟩]
 ·obtain⟨X,x,Y,e1,e2⟩:=h.vd v hh;have c:=pw (by have:=h.flat; rw[e1] at this; exact this);rw[e1,e2,c.wG]
theorem jC(h:kt Q)(k:List Int):gI Q k=(look Q.flatten k).isSome:=by
 cases hh:gI Q k
 ·obtain⟨X,Y,e1,_,h1,h2⟩:=h.iz [] hh;rw[e1,Cut.rJ ⟨h1,h2⟩]; rfl
 ·obtain⟨X,x,Y,e1,_⟩:=h.vd [] hh;have c:=pw (by have:=h.flat; rw[e1] at this; exact this);rw[e1,c.n6]; rfl
theorem iq(h:kt Q)(k:List Int):(r9 Q k).flatten=rem Q.flatten k:=by
 cases hh:gI Q k
 ·rw[wA hh];obtain⟨X,Y,e1,_,h1,h2⟩:=h.iz [] hh;rw[e1,Cut.xb ⟨h1,h2⟩]
 ·obtain⟨X,x,Y,e1,e2⟩:=h.Dn hh;have c:=pw (by have:=h.flat; rw[e1] at this; exact this);rw[e1,e2,c.CJ]
theorem Dj(hh:gI Q k=true):(k,vT Q k)∈Q.flatten:=by
 unfold gI thr at hh;simp only[Bool.and_eq_true,Bool.not_eq_true',decide_eq_true_eq] at hh;obtain⟨_,h2⟩:=hh;unfold vT;rw[List.getElem?_map] at h2;obtain⟨x,hx,hk⟩:=Option.map_eq_some_iff.1 h2;rw[hx];simp only[Option.map_some,Option.getD_some];have hm:=List.mem_of_getElem? hx
 have hp:x=(k,x.2):=by rw[<- hk]
 rw[<- hp];rw[List.getD_eq_getElem?_getD] at hm
 cases hq:Q[apl Q k]? with
 | none=>rw[hq] at hm; simp at hm
 | some p=>rw[hq] at hm; exact List.mem_flatten.2 ⟨p,List.mem_of_getElem? hq,hm⟩
theorem ye(h:kt Q)(k:List Int):(if gI Q k then vT Q k else [])=(look Q.flatten k).getD []:=by
 cases hh:gI Q k
 ·have:=jC h k;rw[hh] at this
  cases hl:look Q.flatten k with
  | none=>rfl
  | some x=>rw[hl] at this; cases this
 ·have hm:=Dj hh;obtain⟨X,Y,e⟩:=List.append_of_mem hm;have c:=pw (by have:=h.flat; rw[e] at this; exact this);rw[e,c.n6]; rfl
theorem jH{E:aI}(h:look E k=some x):(k,x)∈E:=by
 unfold look at h;obtain⟨a,ha,rfl⟩:=Option.map_eq_some_iff.1 h;have h1:=List.mem_of_find?_eq_some ha;have h2:=List.find?_some ha;simp only[decide_eq_true_eq] at h2;rw[<- h2]; exact h1
theorem vi{E:aI}(h:eP E)(k v:List Int):(put E k v).length<=E.length + 1:=by
 obtain⟨X,Y,c,⟨rfl,_⟩ | ⟨x,rfl,_⟩⟩:=h.cut k
 ·rw[c.wE]; simp; omega
 ·rw[c.wG]; simp
theorem uR{E:aI}(k:List Int):(rem E k).length<=E.length:=List.length_filter_le _ _
end
end Kv
end
section
namespace Pg
open Go.RowKit Go.Lib
section
variable {L:List Pg}{N g b:Nat}{w w':World}{F D:Nat->Prop}{Q:List (List KV)}{P:List (List En)}{p:En->Prop}{kv:Value}{k:List Int}
structure Mp(w:World)(F D:Nat->Prop)(g:Nat)(Q:List (List KV))(N:Nat):Prop where
 ex:∃ L,abs (ens L)=Q/\bP w F D g L/\Ord (ens L)/\Shq (ens L)/\(ens L).flatten.length<=N/\∀ es∈ens L,∀ e∈es,e.kl.length<=1000000000/\e.vl.length<=1000000000
theorem u7:∀ {P:List (List En)},(∀ es∈P,1<=es.length)->P.length<=P.flatten.length
 | [],_=>Nat.le_refl _
 | a :: P,h=>by
  have h1:=h a List.mem_cons_self;have h2:=u7 (P:=P) fun es he=>h es (List.mem_cons_of_mem _ he)
  simp only[List.flatten_cons,List.length_append,List.length_cons];omega
theorem Shq.few(h:Shq (ens L))(hN:(ens L).flatten.length<=N)(hb:N<=100000000):L.length<=100000000:=by
 have h1:=u7 fun es he=>(h.one es he).1
 have h2:(ens L).length=L.length:=by simp[ens]
 omega
theorem Mp.lt(M:Mp w F D g Q N)(hb:F b):b < w.heap.size:=by
 obtain⟨L,_,A,_⟩:=M.ex;exact A.lt hb
theorem Mp.noU(M:Mp w F D g Q N)(hb:F b)(cs:List Value):¬ Blk w b cs 5:=by
 obtain⟨L,_,A,_⟩:=M.ex;exact A.noU hb cs
theorem Mp.keep(M:Mp w F D g Q N)(hb:Below w.heap.size w w'):Mp w' F D g Q N:=by
 obtain⟨L,e,A,r⟩:=M.ex;exact⟨L,e,A.keep hb,r⟩
theorem Mp.same(M:Mp w F D g Q N)(h1:∀ b,F b->w'.heap[b]? = w.heap[b]?)(h2:∀ b,b < w.heap.size->D b->(∃ cs,Blk w b cs 5)->w'.heap[b]? = w.heap[b]?):Mp w' F D g Q N:=by
 obtain⟨L,e,A,r⟩:=M.ex;exact⟨L,e,A.same h1 h2,r⟩
theorem Mp.chg{F':Nat->Prop}(M:Mp w F D g Q N)(hc:Chg F' w w')(h1:∀ b,F' b->¬ F b)(h2:∀ b,F' b->∀ cs,¬ Blk w b cs 5):Mp w' F D g Q N:=by
 obtain⟨L,e,A,r⟩:=M.ex;exact⟨L,e,A.chg hc h1 h2,r⟩
theorem Mp.mono{D':Nat->Prop}(M:Mp w F D g Q N)(hD:∀ b,b < w.heap.size->D b->D' b):Mp w F D' g Q N:=by
 obtain⟨L,e,A,r⟩:=M.ex;exact⟨L,e,A.mono hD,r⟩
theorem Mp.more{N':Nat}(M:Mp w F D g Q N)(h:N<=N'):Mp w F D g Q N':=by
 obtain⟨L,e,A,O,S,n,r⟩:=M.ex;exact⟨L,e,A,O,S,by omega,r⟩
theorem Mp.ord(M:Mp w F D g Q N):kt Q:=by
 obtain⟨L,e,A,O,_⟩:=M.ex;exact⟨_,e,O⟩
theorem Mp.len(M:Mp w F D g Q N):Q.flatten.length<=N:=by
 obtain⟨L,rfl,A,O,S,n,r⟩:=M.ex;rw[dz,List.length_map];exact n
theorem Mp.small(M:Mp w F D g Q N):∀ x∈Q.flatten,x.1.length<=1000000000/\x.2.length<=1000000000:=by
 obtain⟨L,rfl,A,O,S,n,r⟩:=M.ex;intro x hx;rw[dz] at hx;obtain⟨e,he,rfl⟩:=List.mem_map.1 hx;obtain⟨es,h1,h2⟩:=List.mem_flatten.1 he;exact r es h1 e h2
theorem lW:(∀ es∈P,∀ e∈es,p e)<->∀ e∈P.flatten,p e :=
 ⟨fun h e he=>by obtain⟨es,h1,h2⟩:=List.mem_flatten.1 he; exact h es h1 e h2,fun h es he e hee=>h e (List.mem_flatten.2 ⟨es,he,hee⟩)⟩
theorem mnew:Calls Tryz.prog 43 #[] w fun e w'=>e=.returned (.pointer (some ⟨w.heap.size,0,none⟩))/\Mp w' (· = w.heap.size) (fun _=>False) w.heap.size [] 0/\Below w.heap.size w w' :=
 CZ.mono fun e w' ⟨g,he,hg,A,B⟩=>by
  subst hg;exact⟨he,⟨[],rfl,A,⟨fun _ h=>by simp[ens] at h,List.Pairwise.nil⟩,Shq.nil,Nat.le_refl _,fun _ h=>by simp[ens] at h⟩,B⟩
theorem mset{vv:Value}{v:List Int}(M:Mp w F D g Q N)(hk:By w kv k)(hv:By w vv v)(hkl:k.length<=1000000000)(hvl:v.length<=1000000000)(hN:N<=100000000) :
  Calls Tryz.prog 97 #[.pointer (some ⟨g,0,none⟩),kv,vv] w fun e w'=>e=.returned (.bool (!gI Q k))/\∃ F',Mp w' F' (fun b=>D b\/w.heap.size<=b) g (wj Q k v) (N + 1)/\(∀ b,F' b->F b\/w.heap.size<=b)/\Chg F w w':=by
 obtain⟨L,rfl,A,O,S,n,r⟩:=M.ex;refine(Cn A O (fun es he=>(S.one es he).2) (S.few n hN) hk hv hkl hvl).mono fun e w' ⟨he,F',L',nk,nv,e1,A',hF,hc⟩ => ?_
 refine⟨by rw[gy]; exact he,F',⟨L',by rw[e1,pZ],A',by rw[e1]; exact O.set _,by rw[e1]; exact S.set O _,?_,?_⟩,hF,hc⟩
 ·rw[e1,Dc O];split<;>omega
 ·rw[e1];rw[lW] at r ⊢;intro x hx
  cases hh:has (ens L) k
  ·obtain⟨X,Y,e2,e3,_⟩:=gC O (e:=⟨nk,k,nv,v⟩) hh;rw[e3] at hx;rw[e2] at r;rcases List.mem_append.1 hx with h | h
   ·exact r x (List.mem_append_left _ h)
   ·rcases List.mem_cons.1 h with h | h
    ·subst h; exact⟨hkl,hvl⟩
    ·exact r x (List.mem_append_right _ h)
  ·obtain⟨X,y,Y,e2,hy,e3⟩:=gJ O (e:=⟨nk,k,nv,v⟩) hh;rw[e3] at hx;rw[e2] at r;rcases List.mem_append.1 hx with h | h
   ·exact r x (List.mem_append_left _ h)
   ·rcases List.mem_cons.1 h with h | h
    ·subst h; exact⟨by simp only; rw[hy]; exact hkl,hvl⟩
    ·exact r x (List.mem_append_right _ (List.mem_cons_of_mem _ h))
theorem mdel(M:Mp w F D g Q N)(hk:By w kv k)(hN:N<=100000000) :
  Calls Tryz.prog 122 #[.pointer (some ⟨g,0,none⟩),kv] w fun e w'=>e=.returned (.bool (gI Q k))/\∃ F',Mp w' F' D g (r9 Q k) N/\(∀ b,F' b->F b\/w.heap.size<=b)/\Chg F w w':=by
 obtain⟨L,rfl,A,O,S,n,r⟩:=M.ex;refine(sw A O (fun es he=>(S.one es he).2) (S.few n hN) hk).mono fun e w' ⟨he,F',L',e1,A',hF,hc⟩ => ?_
 refine⟨by rw[gy]; exact he,F',⟨L',by rw[e1,uF],A',by rw[e1]; exact O.del _,by rw[e1]; exact S.del O _,?_,?_⟩,hF,hc⟩
 ·rw[e1]
  cases hh:has (ens L) k
  ·rw[rK hh]; exact n
  ·obtain⟨X,x,Y,e2,_,e3⟩:=mZ O hh;rw[e2] at n;rw[e3];simp only[List.length_append,List.length_cons] at n ⊢;omega
 ·rw[e1];rw[lW] at r ⊢;intro x hx
  cases hh:has (ens L) k
  ·rw[rK hh] at hx; exact r x hx
  ·obtain⟨X,y,Y,e2,_,e3⟩:=mZ O hh;rw[e3] at hx;rw[e2] at r;rcases List.mem_append.1 hx with h | h
   ·exact r x (List.mem_append_left _ h)
   ·exact r x (List.mem_append_right _ (List.mem_cons_of_mem _ h))
theorem mget(M:Mp w F D g Q N)(hk:By w kv k)(hN:N<=100000000) :
  Calls Tryz.prog 170 #[.pointer (some ⟨g,0,none⟩),kv] w fun e w'=>∃ v,e=.returned (.tuple #[v,.bool (gI Q k)])/\OB w' (w.heap.size <= ·) v (if gI Q k then vT Q k else [])/\Below w.heap.size w w':=by
 obtain⟨L,rfl,A,O,S,n,r⟩:=M.ex;rw[gy,C9];exact Cw A O (fun es he=>by have:=(S.one es he).2; omega) (S.few n hN) hk fun p hp e he=>(r p.es (List.mem_map.2 ⟨p,hp,rfl⟩) e he).2
end
end Pg
end
section
namespace Kv
open Go.RowKit Go.Lib Pg
section
variable {V D V' D' K:Nat->Prop}{w w':World}{v c jv:Value}{l:List Int}{g b n N:Nat}{cs cs':List Value}{oj:Option Nat}{E:aI}{W:List aI}
theorem KF:Kd Tryz.prog 270 1 1 8 .nilFunc:=⟨by kernel_rfl,by kernel_rfl,rfl,by simp[Value.cells,Value.oneCell'],by decide⟩
structure nC(w : World)(V D : Nat → Prop)(g : Nat)(u : Und)(c : Value) : Prop where
  short : u.1.length ≤ 1000000000 ∧ ∀ x, u.2 = some x → x.length ≤ 1000000000
  ex : ∃ s1 s2 kv, V s1 ∧ V s2 ∧ Blk w s1 [.pointer (some ⟨g, 0, none⟩)] 37 ∧ Blk w s2 [kv] 96 ∧ OB w D kv u.1 ∧
    ((u.2 = none ∧ c = .func (.func 191) #[] #[.pointer (some ⟨s1, 0, none⟩), .pointer (some ⟨s2, 0, none⟩)]) ∨
     ∃ s3 vv x, V s3 ∧ Blk w s3 [vv] 96 ∧ OB w D vv x ∧ u.2 = some x ∧ c = .func (.func 192) #[] #[.pointer (some ⟨s1, 0, none⟩), .pointer (some ⟨s2, 0, none⟩), .pointer (some ⟨s3, 0, none⟩)])
structure ll(V D:Nat->Prop)(w w':World):Prop where
 var:∀ b cs t,V b->Blk w b cs t->(t=37\/t=96)->w'.heap[b]? = w.heap[b]?
 byt:∀ b,b < w.heap.size->D b->(∃ cs,Blk w b cs 5)->w'.heap[b]? = w.heap[b]?
theorem ll.ob(h:ll V D w w')(O:OB w D v l):OB w' D v l :=
 ⟨O.oct,O.ex.imp id (by
  rintro⟨b,c,e,hd,hR⟩;exact⟨b,c,e,hd,hR.same (h.byt b hR.lt hd hR.kind)⟩)⟩
theorem nC.stay{u:Und}(h:nC w V D g u c)(hs:ll V D w w'):nC w' V D g u c:=by
 obtain⟨s1,s2,kv,v1,v2,b1,b2,ok,r⟩:=h.ex;refine⟨h.short,s1,s2,kv,v1,v2,b1.same (hs.var _ _ _ v1 b1 (.inl rfl)),b2.same (hs.var _ _ _ v2 b2 (.inr rfl)),hs.ob ok,r.imp id ?_⟩;rintro⟨s3,vv,x,v3,b3,ov,e⟩;exact⟨s3,vv,x,v3,b3.same (hs.var _ _ _ v3 b3 (.inr rfl)),hs.ob ov,e⟩
theorem nC.mono{u:Und}(h:nC w V D g u c)(hV:∀ b,V b->V' b)(hD:∀ b,b < w.heap.size->D b->D' b):nC w V' D' g u c:=by
 obtain⟨s1,s2,kv,v1,v2,b1,b2,ok,r⟩:=h.ex;refine⟨h.short,s1,s2,kv,hV _ v1,hV _ v2,b1,b2,ok.mono hD,r.imp id ?_⟩;rintro⟨s3,vv,x,v3,b3,ov,e⟩;exact⟨s3,vv,x,hV _ v3,b3,ov.mono hD,e⟩
theorem nC.one{u:Und}(h:nC w V D g u c):c.oneCell'=true:=by
 obtain⟨s1,s2,kv,v1,v2,b1,b2,ok,⟨_,rfl⟩ | ⟨s3,vv,x,v3,b3,ov,_,rfl⟩⟩:=h.ex<;>rfl
def iM(w:World)(V D:Nat->Prop)(g:Nat)(U:List Und)(cs:List Value):Prop:=cs.length=U.length/\∀ (i:Nat) u c,U[i]? = some u->cs[i]? = some c->nC w V D g u c
theorem iM.stay{U:List Und}(h:iM w V D g U cs)(hs:ll V D w w'):iM w' V D g U cs:=⟨h.1,fun i u c hu hc=>(h.2 i u c hu hc).stay hs⟩
theorem iM.mono{U:List Und}(h:iM w V D g U cs)(hV:∀ b,V b->V' b)(hD:∀ b,b < w.heap.size->D b->D' b):iM w V' D' g U cs:=⟨h.1,fun i u c hu hc=>(h.2 i u c hu hc).mono hV hD⟩
theorem iM.app{U U':List Und}(h:iM w V D g U cs)(h':iM w V D g U' cs'):iM w V D g (U ++ U') (cs ++ cs'):=by
 refine⟨by rw[List.length_append,List.length_append,h.1,h'.1],fun i u c hu hc => ?_⟩;by_cases hi:i < U.length
 ·rw[List.getElem?_append_left hi] at hu;rw[List.getElem?_append_left (by rw[h.1]; exact hi)] at hc;exact h.2 i u c hu hc
 ·rw[List.getElem?_append_right (by omega)] at hu;rw[List.getElem?_append_right (by rw[h.1]; omega),h.1] at hc;exact h'.2 _ u c hu hc
theorem iM.one{U:List Und}(h:iM w V D g U cs):∀ c∈cs,c.oneCell'=true:=fun c hc=>by
 obtain⟨i,hi⟩:=List.getElem?_of_mem hc;have hlt:=(List.getElem?_eq_some_iff.1 hi).1;exact(h.2 i (U[i]'(by rw[<- h.1]; exact hlt)) c (List.getElem?_eq_getElem _) hi).one
structure Jr where
 U:List Und
 v:Value
 o:Option Nat
def JrA(w:World)(V D:Nat->Prop)(g:Nat)(j:Jr):Prop:=∃ cs,iM w V D g j.U cs/\((j.o=none/\j.v=.slice none 0 0/\j.U=[])\/∃ b c,j.o=some b/\j.v=.slice (some ⟨b,0,none⟩) j.U.length c/\Rw w 1 1 b j.U.length c cs)
theorem JrA.stay{j:Jr}(h:JrA w V D g j)(hs:ll V D w w')(ho:∀ b,j.o=some b->w'.heap[b]? = w.heap[b]?):JrA w' V D g j:=by
 obtain⟨cs,hc,r⟩:=h;refine⟨cs,hc.stay hs,r.imp id ?_⟩;rintro⟨b,c,e1,e2,hR⟩;exact⟨b,c,e1,e2,hR.same (ho b e1)⟩
theorem JrA.mono{j:Jr}(h:JrA w V D g j)(hV:∀ b,V b->V' b)(hD:∀ b,b < w.heap.size->D b->D' b):JrA w V' D' g j:=by
 obtain⟨cs,hc,r⟩:=h;exact⟨cs,hc.mono hV hD,r⟩
theorem JrA.kind{j:Jr}(h:JrA w V D g j)(hb:j.o=some b):∃ cs,Blk w b cs 1:=by
 obtain⟨cs,hc,⟨e,_⟩ | ⟨b',c,e,_,hR⟩⟩:=h
 ·rw[hb] at e; cases e
 ·rw[hb] at e; cases e; exact hR.kind
structure JnA(w:World)(V D:Nat->Prop)(g:Nat)(jv:Value)(T:List Jr)(oj:Option Nat):Prop where
 row:(oj=none/\jv=.slice none 0 0/\T=[])\/∃ b c,oj=some b/\jv=.slice (some ⟨b,0,none⟩) T.length c/\Rw w 273 1 b T.length c (T.map Jr.v)
 each:∀ j∈T,JrA w V D g j
 apart:(T.filterMap Jr.o).Nodup
theorem JnA.stay{T:List Jr}(h:JnA w V D g jv T oj)(hs:ll V D w w')(ho:∀ b,oj=some b->w'.heap[b]? = w.heap[b]?)(hb:∀ j∈T,∀ b,j.o=some b->w'.heap[b]? = w.heap[b]?):JnA w' V D g jv T oj :=
 ⟨h.row.imp id (by rintro⟨b,c,e1,e2,hR⟩; exact⟨b,c,e1,e2,hR.same (ho b e1)⟩),fun j hj=>(h.each j hj).stay hs (hb j hj),h.apart⟩
theorem JnA.mono{T:List Jr}(h:JnA w V D g jv T oj)(hV:∀ b,V b->V' b)(hD:∀ b,b < w.heap.size->D b->D' b):JnA w V' D' g jv T oj :=
 ⟨h.row,fun j hj=>(h.each j hj).mono hV hD,h.apart⟩
theorem JnA.kind{T:List Jr}(h:JnA w V D g jv T oj)(hb:oj=some b):∃ cs,Blk w b cs 273:=by
 rcases h.row with⟨e,_⟩ | ⟨b',c,e,_,hR⟩
 ·rw[hb] at e; cases e
 ·rw[hb] at e; cases e; exact hR.kind
def tot(T:List Jr):Nat:=(T.map fun j=>j.U.length).sum
structure Own(w:World)(K F V:Nat->Prop)(g:Nat)(T:List Jr)(oj:Option Nat):Prop where
 top:K g
 map:∀ b,F b->K b
 var:∀ b,V b->K b
 jrn:∀ b,oj=some b->K b
 bck:∀ j∈T,∀ b,j.o=some b->K b
 kind:∀ b,K b->∃ cs t,Blk w b cs t/\t≠5
 oR:¬ F g
 sE:∀ b,V b->¬ F b
 ri:∀ b,oj=some b->¬ F b
 nB:∀ j∈T,∀ b,j.o=some b->¬ F b
 vk:∀ b,V b->∃ cs t,Blk w b cs t/\(t=37\/t=96)
structure SA(w:World)(K D:Nat->Prop)(g:Nat)(E:aI)(W:List aI)(n N:Nat):Prop where
 ex:∃ F V m Q jv T oj,Blk w g [.pointer (some ⟨m,0,none⟩),jv,.int .i64 n] 94/\Mp w F D m Q N/\Q.flatten=E/\JnA w V D g jv T oj/\kB (T.reverse.map Jr.U) W E/\tot T + E.length<=N/\T.length<=16/\Own w K F V g T oj
theorem SA.lt(h:SA w K D g E W n N)(hb:K b):b < w.heap.size:=by
 obtain⟨F,V,m,Q,jv,T,oj,_,_,_,_,_,_,_,O⟩:=h.ex;obtain⟨cs,t,h,_⟩:=O.kind b hb;exact h.lt
theorem SA.top(h:SA w K D g E W n N):K g:=by
 obtain⟨F,V,m,Q,jv,T,oj,_,_,_,_,_,_,_,O⟩:=h.ex;exact O.top
theorem Own.same{F:Nat->Prop}{T:List Jr}(O:Own w K F V g T oj)(h1:∀ b,K b->w'.heap[b]? = w.heap[b]?):Own w' K F V g T oj :=
 ⟨O.top,O.map,O.var,O.jrn,O.bck,fun b hb=>by
  obtain⟨cs,t,hk,ht⟩:=O.kind b hb;exact⟨cs,t,hk.same (h1 b hb),ht⟩,O.oR,O.sE,O.ri,O.nB,fun b hv=>by
  obtain⟨cs,t,hk,ht⟩:=O.vk b hv;exact⟨cs,t,hk.same (h1 b (O.var b hv)),ht⟩⟩
theorem SA.same(h:SA w K D g E W n N)(h1:∀ b,K b->w'.heap[b]? = w.heap[b]?)(h2:∀ b,b < w.heap.size->D b->(∃ cs,Blk w b cs 5)->w'.heap[b]? = w.heap[b]?):SA w' K D g E W n N:=by
 obtain⟨F,V,m,Q,jv,T,oj,hb,hm,he,hj,hk,ht,hl,O⟩:=h.ex
 have hs:ll V D w w':=⟨fun b _ _ hv _ _=>h1 b (O.var b hv),h2⟩
 exact⟨F,V,m,Q,jv,T,oj,hb.same (h1 g O.top),hm.same (fun b hF=>h1 b (O.map b hF)) h2,he,hj.stay hs (fun b e=>h1 b (O.jrn b e)) (fun j hjm b e=>h1 b (O.bck j hjm b e)),hk,ht,hl,O.same h1⟩
theorem SA.keep(h:SA w K D g E W n N)(hb:Below w.heap.size w w'):SA w' K D g E W n N:=h.same (fun b hK=>hb.block b (h.lt hK)) (fun b hl _ _=>hb.block b hl)
theorem SA.chg{K':Nat->Prop}(h:SA w K D g E W n N)(hc:Chg K' w w')(h1:∀ b,K' b->¬ K b)(h2:∀ b,K' b->∀ cs,¬ Blk w b cs 5):SA w' K D g E W n N :=
 h.same (fun b hK=>hc.same b (h.lt hK) fun f=>h1 b f hK) (fun b hl _ hk=>hc.same b hl fun f=>by obtain⟨cs,k⟩:=hk; exact h2 b f cs k)
theorem SA.mono(h:SA w K D g E W n N)(hD:∀ b,b < w.heap.size->D b->D' b):SA w K D' g E W n N:=by
 obtain⟨F,V,m,Q,jv,T,oj,hb,hm,he,hj,hk,ht,hl,O⟩:=h.ex;exact⟨F,V,m,Q,jv,T,oj,hb,hm.mono hD,he,hj.mono (fun _ h=>h) hD,hk,ht,hl,O⟩
theorem SA.more{N':Nat}(h:SA w K D g E W n N)(hN:N<=N'):SA w K D g E W n N':=by
 obtain⟨F,V,m,Q,jv,T,oj,hb,hm,he,hj,hk,ht,hl,O⟩:=h.ex;exact⟨F,V,m,Q,jv,T,oj,hb,hm.more hN,he,hj,hk,Nat.le_trans ht hN,hl,O⟩
theorem SA.size(h:SA w K D g E W n N):E.length<=N:=by
 obtain⟨F,V,m,Q,jv,T,oj,hb,hm,rfl,_⟩:=h.ex;exact hm.len
theorem SA.small(h:SA w K D g E W n N):∀ x∈E,x.1.length<=1000000000/\x.2.length<=1000000000:=by
 obtain⟨F,V,m,Q,jv,T,oj,hb,hm,rfl,_⟩:=h.ex;exact hm.small
end
end Kv
end
section
namespace Kv
open Go.RowKit Go.Lib Pg
section
variable {w w':World}{K D F V:Nat->Prop}{g n N m:Nat}{E:aI}{W:List aI}{Q:List (List KV)}{jv kv:Value}{T:List Jr}{oj:Option Nat}{x:Int}{cs:List Value}{ao:Option Addr}{k:List Int}
attribute [local go_sem] Oper.semAt_some
structure SX(w:World)(K D F V:Nat->Prop)(g m:Nat)(Q:List (List KV))(jv:Value)(T:List Jr)(oj:Option Nat)(n N:Nat):Prop where
 blk:Blk w g [.pointer (some ⟨m,0,none⟩),jv,.int .i64 n] 94
 map:Mp w F D m Q N
 jn:JnA w V D g jv T oj
 tot:tot T + Q.flatten.length<=N
 len:T.length<=16
 own:Own w K F V g T oj
theorem SA.open(h:SA w K D g E W n N):∃ F V m Q jv T oj,SX w K D F V g m Q jv T oj n N/\Q.flatten=E/\kB (T.reverse.map Jr.U) W E:=by
 obtain⟨F,V,m,Q,jv,T,oj,hb,hm,he,hj,hk,ht,hl,O⟩:=h.ex;exact⟨F,V,m,Q,jv,T,oj,⟨hb,hm,hj,by rw[he]; exact ht,hl,O⟩,he,hk⟩
theorem SX.shut(h:SX w K D F V g m Q jv T oj n N)(he:Q.flatten=E)(hk:kB (T.reverse.map Jr.U) W E):SA w K D g E W n N :=
 ⟨F,V,m,Q,jv,T,oj,h.blk,h.map,he,h.jn,hk,by have:=h.tot; rw[he] at this; exact this,h.len,h.own⟩
theorem lG{x:Nat}{t:TypeId}(hx:Blk w x cs t)(h1:t≠37)(h2:t≠96)(h3:t≠5)(hc:Chg (· = x) w w'):ll V D w w' :=
 ⟨fun b cs' t' _ hb ht=>hc.same b hb.lt (fun e=>by
  have e':b=x:=e;subst e';have:=(hx.eq hb).2;subst this;exact ht.elim h1 h2),fun b hl _ hk=>hc.same b hl (fun e=>by
  have e':b=x:=e;subst e';obtain⟨cs',k⟩:=hk;exact h3 (hx.eq k).2)⟩
theorem Own.chg1{x:Nat}(O:Own w K F V g T oj)(hs:ll V D w w')(hc:Chg (· = x) w w'){t:TypeId}(hx:Blk w' x cs t)(ht:t≠5):Own w' K F V g T oj :=
 ⟨O.top,O.map,O.var,O.jrn,O.bck,fun b hb=>by
  by_cases e:b=x
  ·subst e; exact⟨cs,t,hx,ht⟩
  ·obtain⟨cs',t',hk,ht'⟩:=O.kind b hb;exact⟨cs',t',hk.chg hc e,ht'⟩,O.oR,O.sE,O.ri,O.nB,fun b hv=>by
  obtain⟨cs,t,hk,ht⟩:=O.vk b hv;exact⟨cs,t,hk.same (hs.var b cs t hv hk ht),ht⟩⟩
theorem SX.top{n':Nat}(h:SX w K D F V g m Q jv T oj n N)(hc:Chg (· = g) w w')(hb:Blk w' g [.pointer (some ⟨m,0,none⟩),jv,.int .i64 n'] 94):SX w' K D F V g m Q jv T oj n' N :=
 ⟨hb,h.map.chg hc (fun b e hF=>h.own.oR (by have e':b=g:=e; exact e'▸hF)) (fun b e cs k=>by
   have e':b=g:=e;subst e';exact absurd (h.blk.eq k).2 (by decide)),h.jn.stay (lG h.blk (by decide) (by decide) (by decide) hc)
   (fun b e=>by
    obtain⟨cs,k⟩:=h.jn.kind e;exact hc.same b k.lt (fun e'=>by
     have e'':b=g:=e';subst e'';exact absurd (h.blk.eq k).2 (by decide)))
   (fun j hj b e=>by
    obtain⟨cs,k⟩:=(h.jn.each j hj).kind e;exact hc.same b k.lt (fun e'=>by
     have e'':b=g:=e';subst e'';exact absurd (h.blk.eq k).2 (by decide))),h.tot,h.len,h.own.chg1 (lG (D:=D) h.blk (by decide) (by decide) (by decide) hc) hc hb (by decide)⟩
theorem SX.keep(h:SX w K D F V g m Q jv T oj n N)(hb:Below w.heap.size w w'):SX w' K D F V g m Q jv T oj n N:=by
 have h1:∀ b,K b->w'.heap[b]? = w.heap[b]? := fun b hK=>by
  obtain⟨cs,t,k,_⟩:=h.own.kind b hK;exact hb.block b k.lt
 exact⟨h.blk.keep hb,h.map.keep hb,h.jn.stay ⟨fun b _ _ _ k _=>hb.block b k.lt,fun b hl _ _=>hb.block b hl⟩ (fun b e=>h1 b (h.own.jrn b e)) (fun j hj b e=>h1 b (h.own.bck j hj b e)),h.tot,h.len,h.own.same h1⟩
theorem sW{a:Addr}(hc:w.cell? a=some (.int .i64 x))(hz:w.frozen? a=false)(h0:0<=x)(h1:x<=4000000000000000000) :
  (callFunc 190 #[.pointer (some a),.int .i64 1]).run Tryz.prog w=.ok (.value (.int .i64 (x + 1))) (w.setCell a (.int .i64 (x + 1))) :=
 run_call_add Tryz.func190 (by kernel_rfl) (by kernel_rfl) (by kernel_rfl) .i64 (by kernel_rfl) hc hz (by
  have e:IntKind.i64.wrap (x + 1)=x + 1:=by rw[IntKind.wrap_i64]; omega
  simp[Op.intArith,e])
theorem Br(hc:w.cell? ⟨g,2,none⟩=some (.int .i64 x))(hz:w.frozen? ⟨g,2,none⟩=false)(h0:0<=x)(h1:x<=4000000000000000000) :
  Calls Tryz.prog 142 #[.pointer (some ⟨g,2,none⟩),.int .i64 1] w fun e w'=>e=.returned (.int .i64 (x + 1))/\w'=w.setCell ⟨g,2,none⟩ (.int .i64 (x + 1)):=by
 have hr:=sW hc hz h0 h1;go_enter Tryz.func142,Tryz.ntmps142;go_wp2_with (simp only[hr]);go_ret;exact⟨rfl,rfl⟩
theorem j9(hc:w.cell? ⟨g,2,none⟩=some (.int .i64 x))(hz:w.frozen? ⟨g,2,none⟩=false)(h0:0<=x)(h1:x<=4000000000000000000) :
  Calls Tryz.prog 95 #[.pointer (some ⟨g,0,none⟩)] w fun e w'=>e=.returned (.tuple #[])/\w'=w.setCell ⟨g,2,none⟩ (.int .i64 (x + 1)):=by
 have u:=Br hc hz h0 h1;clear hc hz;go_enter Tryz.func95,Tryz.ntmps95;go_wp2_with (go_at_call 142; refine u.mono ?_; rintro e w1 ⟨rfl,rfl⟩);go_end0;exact⟨rfl,rfl⟩
theorem fY(h:SX w K D F V g m Q jv T oj n N)(hn:n<=4000000000000000000) :
  Calls Tryz.prog 95 #[.pointer (some ⟨g,0,none⟩)] w fun e w'=>e=.returned (.tuple #[])/\SX w' K D F V g m Q jv T oj (n + 1) N/\Chg (· = g) w w':=by
 refine(j9 (h.blk.cell (i:=2) rfl) (h.blk.free 2) (by omega) (by omega)).mono ?_
 rintro e w' ⟨rfl,rfl⟩
 have hc:Chg (· = g) w (w.setCell ⟨g,2,none⟩ (.int .i64 ((n:Int) + 1))):=(Chg.refl (· = g) w).cell (.inl rfl) _;refine⟨rfl,h.top hc ?_,hc⟩;have:=h.blk.setCell (i:=2) (.int .i64 ((n:Int) + 1));exact this
theorem oe{c:Nat}{mv nv:Value}(h:Blk w g [mv,.slice ao n c,nv] 94) :
  Calls Tryz.prog 143 #[.pointer (some ⟨g,0,none⟩)] w fun e w'=>e=.returned (.int .i64 n)/\w'=w:=by
 have c1:=h.cell (i:=1) rfl;clear h;go_enter Tryz.func143,Tryz.ntmps143;go_wp2;go_ret;exact⟨rfl,rfl⟩
theorem JnA.shape(h:JnA w V D g jv T oj):∃ ao c,jv=.slice ao T.length c:=by
 rcases h.row with⟨_,e,rfl⟩ | ⟨b,c,_,e,_⟩
 ·exact⟨none,0,e⟩
 ·exact⟨_,c,e⟩
theorem zM(h:SX w K D F V g m Q jv T oj n N) :
  Calls Tryz.prog 143 #[.pointer (some ⟨g,0,none⟩)] w fun e w'=>e=.returned (.int .i64 T.length)/\w'=w:=by
 obtain⟨ao,c,e⟩:=h.jn.shape;have hb:=h.blk;rw[e] at hb;exact oe hb
theorem snew:Calls Tryz.prog 16 #[] w fun e w'=>∃ g K,e=.returned (.pointer (some ⟨g,0,none⟩))/\SA w' K (fun _=>False) g [] [] 0 0/\(∀ b,K b->w.heap.size<=b)/\Below w.heap.size w w':=by
 have u:=mnew (w:=w);go_enter Tryz.func16,Tryz.ntmps16;go_wp2_with (go_at_call 43; refine u.mono ?_; rintro e w1 ⟨rfl,M,B⟩);go_ret;have hlt:=M.lt (b:=w.heap.size) rfl;have al:=ae w1 (.cells #[.pointer (some ⟨w.heap.size,0,none⟩),.slice none 0 0,.int .i64 0] 94);have bl:=aC w1 [.pointer (some ⟨w.heap.size,0,none⟩),.slice none 0 0,.int .i64 0] 94;have M2:=M.keep al;refine⟨w1.heap.size,fun b=>b=w.heap.size\/b=w1.heap.size,rfl,⟨_,fun _=>False,_,_,_,[],none,bl,M2,rfl,⟨.inl ⟨rfl,rfl,rfl⟩,fun _ h=>by simp at h,List.nodup_nil⟩,trivial,by decide,by decide,?_⟩,fun b hb=>by have:=B.size; omega,ah B al⟩;refine⟨.inr rfl,fun b hb=>.inl hb,fun _ h=>h.elim,(fun _ h=>by cases h),(fun _ h=>by simp at h),fun b hb => ?_,(fun h=>by have h':w1.heap.size=w.heap.size:=h; omega),fun _ h=>h.elim,(fun _ h=>by cases h),(fun _ h=>by simp at h),fun _ h=>h.elim⟩;rcases hb with rfl | rfl
 ·obtain⟨L,_,A,_⟩:=M2.ex;exact A.kind _ rfl
 ·exact⟨_,_,bl,by decide⟩
theorem jM(h:SX w K D F V g m Q jv T oj n N)(hk:By w kv k)(hN:N<=100000000) :
  Calls Tryz.prog 170 #[.pointer (some ⟨m,0,none⟩),kv] w fun e w'=>∃ v,e=.returned (.tuple #[v,.bool (look Q.flatten k).isSome])/\OB w' (w.heap.size <= ·) v ((look Q.flatten k).getD [])/\Below w.heap.size w w':=by
 have u:=mget h.map hk hN;rw[ye h.map.ord,jC h.map.ord] at u;exact u
theorem su(h:SX w K D F V g m Q jv T oj n N)(hk:By w kv k)(hN:N<=100000000) :
  Calls Tryz.prog 121 #[.pointer (some ⟨g,0,none⟩),kv] w fun e w'=>e=.returned (.bool (look Q.flatten k).isSome)/\Below w.heap.size w w':=by
 have c0:=h.blk.cell (i:=0) rfl;have u:=jM h hk hN;obtain⟨ao,c,rfl,-⟩:=id hk.ex;generalize (look Q.flatten k).isSome=r at *;generalize (look Q.flatten k).getD []=L at *;clear h hk;go_enter Tryz.func121,Tryz.ntmps121;go_wp2_with (go_at_call 170; refine u.mono ?_; rintro e w1 ⟨v,rfl,O,B⟩; obtain⟨a1,c1,rfl,-⟩:=id O.by.ex);go_ret;exact⟨rfl,B⟩
end
end Kv
end
section
namespace Kv
open Go.RowKit Go.Lib Pg
section
variable {w w':World}{K D F V D':Nat->Prop}{g m n N o:Nat}{Q Q':List (List KV)}{jv v u kv:Value}{T:List Jr}{oj:Option Nat}{ao:Option Addr}
attribute [local go_sem] Oper.semAt_some
theorem aB{p:Prop}(h:p):Hid p:=h
theorem SX.vars{S:Nat->Prop}(h:SX w K D F V g m Q jv T oj n N)(h1:∀ b,S b->¬ F b)(h2:∀ b,S b->∃ cs t,Blk w b cs t/\(t=37\/t=96))(hD:∀ b,b < w.heap.size->D b->D' b) :
  SX w (fun b=>K b\/S b) D' F (fun b=>V b\/S b) g m Q jv T oj n N :=
 ⟨h.blk,h.map.mono hD,h.jn.mono (fun _=>.inl) hD,h.tot,h.len,.inl h.own.top,fun b hb=>.inl (h.own.map b hb),fun b hb=>hb.imp (h.own.var b) id,fun b hb=>.inl (h.own.jrn b hb),fun j hj b hb=>.inl (h.own.bck j hj b hb),fun b hb=>hb.elim (h.own.kind b) (fun hs=>by
  obtain⟨cs,t,k,e⟩:=h2 b hs;exact⟨cs,t,k,by rcases e with e | e<;>subst e<;>decide⟩),h.own.oR,fun b hb=>hb.elim (h.own.sE b) (h1 b),h.own.ri,h.own.nB,fun b hb=>hb.elim (h.own.vk b) (h2 b)⟩
theorem SX.mapped{F':Nat->Prop}{N':Nat}(h:SX w K D F V g m Q jv T oj n N)(hN:Kv.tot T + Q'.flatten.length<=N')(hM:Mp w' F' D' m Q' N')(hF:∀ b,F' b->F b\/w.heap.size<=b)(hD:∀ b,D b->D' b)(hc:Chg F w w') :
  SX w' (fun b=>(K b/\¬ F b)\/F' b) D' F' V g m Q' jv T oj n N':=by
 have hK:∀ b,K b->b < w.heap.size:=fun b hb=>by obtain⟨cs,t,k,_⟩:=h.own.kind b hb; exact k.lt
 have no:∀ b,K b->¬ F b->¬ F' b:=fun b hb hn hf=>by
  rcases hF b hf with h1 | h1
  ·exact hn h1
  ·have:=hK b hb; omega
 have hs:ll V D w w':=⟨fun b _ _ hv k _=>hc.same b k.lt (h.own.sE b hv),fun b hl _ k=>hc.same b hl (fun f=>by obtain⟨cs,k⟩:=k; exact h.map.noU f cs k)⟩
 have hj:JnA w' V D g jv T oj:=h.jn.stay hs (fun b e=>hc.same b (hK b (h.own.jrn b e)) (h.own.ri b e)) (fun j hj b e=>hc.same b (hK b (h.own.bck j hj b e)) (h.own.nB j hj b e));refine⟨h.blk.chg hc h.own.oR,hM,hj.mono (fun _ h=>h) (fun b _=>hD b),hN,h.len,.inl ⟨h.own.top,h.own.oR⟩,fun b=>.inr,fun b hb=>.inl ⟨h.own.var b hb,h.own.sE b hb⟩,fun b hb=>.inl ⟨h.own.jrn b hb,h.own.ri b hb⟩,fun j hj b hb=>.inl ⟨h.own.bck j hj b hb,h.own.nB j hj b hb⟩,fun b hb => ?_,no g h.own.top h.own.oR,fun b hb=>no b (h.own.var b hb) (h.own.sE b hb),fun b hb=>no b (h.own.jrn b hb) (h.own.ri b hb),fun j hj b hb=>no b (h.own.bck j hj b hb) (h.own.nB j hj b hb),fun b hv=>by
  obtain⟨cs,t,k,ht⟩:=h.own.vk b hv;exact⟨cs,t,k.same (hs.var b cs t hv k ht),ht⟩⟩
 have hMk:∀ b,F' b->∃ cs t,Blk w' b cs t/\t≠5:=fun b hf=>by
  obtain⟨L,_,A,_⟩:=hM.ex;exact A.kind b hf
 rcases hb with⟨hb,hf⟩ | hb
 ·obtain⟨cs,t,k,ht⟩:=h.own.kind b hb;exact⟨cs,t,k.chg hc hf,ht⟩
 ·exact hMk b hb
theorem DB(c:w.cell? ⟨g,o,none⟩=some v):(loadVar 37 ⟨g,o,none⟩).run Tryz.prog w=.ok v w:=by go_simp
theorem xB(c:w.cell? ⟨g,o,none⟩=some v):(loadVar 86 ⟨g,o,none⟩).run Tryz.prog w=.ok v w:=by go_simp
theorem Dz(c:w.cell? ⟨g,o,none⟩=some v):(loadVar 96 ⟨g,o,none⟩).run Tryz.prog w=.ok v w:=by go_simp
theorem lA{a:Act}{o:Oper}(k q:Nat){c:Nat}(ho:o.op=.store 96 (.tmp k) (.tmp q))(hp:a.eval (.tmp k)=.pointer (some ⟨g,0,none⟩))(hq:a.eval (.tmp q)=.slice ao n c)(hc:w.cell? ⟨g,0,none⟩=some u)(hf:w.frozen? ⟨g,0,none⟩=false) :
  (execOp a.eval o).run Tryz.prog w=.ok .skip (w.setCell ⟨g,0,none⟩ (.slice ao n c)):=by
 simp only[execOp,ho,hp,hq];go_simp
def Rds(g m s1 s2:Nat)(jv:Value)(n:Int)(kv:Value)(w:World):Prop:=Blk w s1 [.pointer (some ⟨g,0,none⟩)] 37/\Blk w g [.pointer (some ⟨m,0,none⟩),jv,.int .i64 n] 94/\Blk w s2 [kv] 96
theorem Rds.keep{s1 s2:Nat}{n:Int}(h:Rds g m s1 s2 jv n kv w)(hb:Below w.heap.size w w'):Rds g m s1 s2 jv n kv w':=⟨h.1.keep hb,h.2.1.keep hb,h.2.2.keep hb⟩
end
end Kv
end
section
namespace Kv
open Go.RowKit Go.Lib Pg
section
variable {w:World}{D:Nat->Prop}{v:Value}{l:List Int}{cs:List Value}
attribute [local go_sem] Oper.semAt_some
theorem ij{w':World}{x:Nat}(hc:Chg (· = x) w w')(hx:Blk w x cs 96)(O:OB w D v l):OB w' D v l :=
 ⟨O.oct,O.ex.imp id (by
  rintro⟨b,c,e,hd,hR⟩;refine⟨b,c,e,hd,hR.chg hc (fun e' => ?_)⟩
  have e2:b=x:=e';subst e2;obtain⟨cs',k⟩:=hR.kind;exact absurd (hx.eq k).2 (by decide))⟩
def Rst(w : World)(g : Nat)(k L : List Int)(there : Bool)(e : Ending)(w' : World) : Prop := ∃ s1 s2 s3 v1 v3, e = .returned (.func (.func (if there then 192 else 191)) #[] (if there then #[.pointer (some ⟨s1, 0, none⟩), .pointer (some ⟨s2, 0, none⟩), .pointer (some ⟨s3, 0, none⟩)] else #[.pointer (some ⟨s1, 0, none⟩), .pointer (some ⟨s2, 0, none⟩)])) ∧
      w.heap.size ≤ s1 ∧ w.heap.size ≤ s2 ∧ w.heap.size ≤ s3 ∧ Blk w' s1 [.pointer (some ⟨g, 0, none⟩)] 37 ∧ Blk w' s2 [v1] 96 ∧ Blk w' s3 [v3] 96 ∧ OB w' (w.heap.size ≤ ·) v1 k ∧ OB w' (w.heap.size ≤ ·) v3 L ∧ Below w.heap.size w w'
theorem oX{g m:Nat}{jv kv:Value}{n:Int}{k L:List Int}{there:Bool}(hg:Blk w g [.pointer (some ⟨m,0,none⟩),jv,.int .i64 n] 94)(hk:By w kv k)(hkl:k.length<=1000000000)(u:∀ w' kv',Below w.heap.size w w'->By w' kv' k->Calls Tryz.prog 170 #[.pointer (some ⟨m,0,none⟩),kv'] w' fun e w''=>∃ v,e=.returned (.tuple #[v,.bool there])/\OB w'' (w'.heap.size <= ·) v L/\Below w'.heap.size w' w'') :
  Calls Tryz.prog 145 #[.pointer (some ⟨g,0,none⟩),kv] w (Rst w g k L there):=by
 obtain⟨ao,c,rfl,-⟩:=id hk.ex;have b1:=aC w [.pointer (some ⟨g,0,none⟩)] 37;have al:=ae w (.cells #[.pointer (some ⟨g,0,none⟩)] 37)
 have as1:(w.alloc (.cells #[.pointer (some ⟨g,0,none⟩)] 37)).heap.size=w.heap.size + 1:=by simp
 have t1:=cN (hk.keep al) hkl;have HG:=aB hg;have HU:=aB u;have glt:=hg.lt;clear u hg;generalize hln:k.length=n1 at *
 cases there
 ·go_enter Tryz.func145,Tryz.ntmps145;go_wp2_with (go_at_call 78; refine t1.mono ?_; rintro e w1 ⟨v1,rfl,O1,B1⟩; obtain⟨a1,c1,rfl⟩:∃ a1 c1,v1=.slice a1 k.length c1:=(by obtain⟨a1,c1,e,_⟩:=O1.by.ex; exact⟨a1,c1,e⟩));rw[hln] at O1;have aw1:=B1.size;have al2:=ae w1 (.cells #[.slice a1 n1 c1] 96)
  have hS:Rds g m w.heap.size w1.heap.size jv n (.slice a1 n1 c1) (w1.alloc (.cells #[.slice a1 n1 c1] 96)).drew:=⟨((b1.keep B1).keep al2).drew,(((HG.out.keep al).keep B1).keep al2).drew,(aC w1 [.slice a1 n1 c1] 96).drew⟩
  have BX:Below w.heap.size w (w1.alloc (.cells #[.slice a1 n1 c1] 96)).drew:=ah (ah (ah al B1) al2) ⟨rfl,rfl,rfl,Nat.le_refl _,fun _ _=>rfl⟩
  have hXs:w1.heap.size < (w1.alloc (.cells #[.slice a1 n1 c1] 96)).drew.heap.size:=by show _ < (w1.alloc _).heap.size; simp
  replace O1:=((O1.mono (D':=(w.heap.size <= ·)) (fun b _ h=>by omega)).keep al2).keep (w':=(w1.alloc (.cells #[.slice a1 n1 c1] 96)).drew) ⟨rfl,rfl,rfl,Nat.le_refl _,fun _ _=>rfl⟩;clear t1 al2 b1 al;clear B1;refine bF (S:=Rds g m w.heap.size w1.heap.size jv n (.slice a1 n1 c1)) (by kernel_rfl) hS ?_
  generalize (w1.alloc (.cells #[.slice a1 n1 c1] 96)).drew=X at *;refine aM 0 (some 11) (.pointer (some ⟨g,0,none⟩)) 37 2 w.heap.size 0 (by kernel_rfl) (by kernel_rfl) (by kernel_rfl) (fun w' h=>DB (h.1.cell (i:=0) rfl)) (fun _ _ _ h=>h) hS ?_
  refine aj 1 (some 12) (.pointer (some ⟨g,0,none⟩)) (by kernel_rfl) (fun _ _=>by kernel_rfl) (fun _ _ _ h=>h) hS ?_
  refine aj 2 (some 13) (.pointer (some ⟨g,0,none⟩)) (by kernel_rfl) (fun _ _=>by kernel_rfl) (fun _ _ _ h=>h) hS ?_
  refine aM 3 (some 14) (.pointer (some ⟨m,0,none⟩)) 86 13 g 0 (by kernel_rfl) (by kernel_rfl) (by kernel_rfl) (fun w' h=>xB (h.2.1.cell (i:=0) rfl)) (fun _ _ _ h=>h) hS ?_
  refine aM 4 (some 15) (.slice a1 n1 c1) 96 5 w1.heap.size 0 (by kernel_rfl) (by kernel_rfl) (by kernel_rfl) (fun w' h=>Dz (h.2.2.cell (i:=0) rfl)) (fun _ _ _ h=>h) hS ?_
  have bA:=ae X (.cells #[.slice none 0 0] 96);refine aN [5,9] (by kernel_rfl) (by simp) (uf 5 (some 16) 170 #[.pointer (some ⟨m,0,none⟩),.slice a1 n1 c1] (by kernel_rfl) (by kernel_rfl) (HU.out _ _ BX O1.by) ?_ (bN 9 (some 6) (.pointer (some ⟨X.heap.size,0,none⟩)) (X.alloc (.cells #[.slice none 0 0] 96)) (by kernel_rfl) (by kernel_rfl) (hS.keep bA) ?_ aY))
  ·rintro e' y ⟨v3,rfl,O3,B3⟩;obtain⟨a3,c3,rfl⟩:∃ a3 c3,v3=.slice a3 L.length c3:=(by obtain⟨a3,c3,e,_⟩:=O3.by.ex; exact⟨a3,c3,e⟩)
   refine⟨_,rfl,hS.keep B3,?_⟩;replace hS:=hS.keep B3;replace O1:=O1.keep B3;generalize L.length=n3 at *;refine aj 6 (some 10) (.tuple #[.slice a3 n3 c3,.bool false]) (by kernel_rfl) (fun _ _=>by kernel_rfl) (fun _ _ _ h=>h) hS ?_
   refine aj 7 (some 17) (.slice a3 n3 c3) (by kernel_rfl) (fun _ _=>by kernel_rfl) (fun _ _ _ h=>h) hS ?_
   refine aj 8 (some 18) (.bool false) (by kernel_rfl) (fun _ _=>by kernel_rfl) (fun _ _ _ h=>h) hS ?_
   have BW:=ah BX B3;have hX3:=B3.size;refine aN [9] (by kernel_rfl) (by simp) (bN 9 (some 6) (.pointer (some ⟨y.heap.size,0,none⟩)) (y.alloc (.cells #[.slice none 0 0] 96)) (by kernel_rfl) (by kernel_rfl) (hS.keep (ae y _)) ?_ aY);have bY:=ae y (.cells #[.slice none 0 0] 96);replace hS:=hS.keep bY;replace O1:=O1.keep bY;replace O3:=(O3.mono (D':=(w.heap.size <= ·)) (fun b _ h=>by have h':X.heap.size<=b:=h; omega)).keep bY;have b3:=aC y [.slice none 0 0] 96;replace BW:=ah BW bY;have hcell:=b3.cell (i:=0) rfl;have hfree:=b3.free 0
   have CS:Chg (· = y.heap.size) (y.alloc (.cells #[.slice none 0 0] 96)) ((y.alloc (.cells #[.slice none 0 0] 96)).setCell ⟨y.heap.size,0,none⟩ (.slice a3 n3 c3)):=(Chg.refl (· = y.heap.size) (y.alloc (.cells #[.slice none 0 0] 96))).cell (.inl rfl) _
   have hS2:Rds g m w.heap.size w1.heap.size jv n (.slice a1 n1 c1) ((y.alloc (.cells #[.slice none 0 0] 96)).setCell ⟨y.heap.size,0,none⟩ (.slice a3 n3 c3)):=⟨hS.1.chg CS (by omega),hS.2.1.chg CS (by omega),hS.2.2.chg CS (by omega)⟩
   refine aN [10] (by kernel_rfl) (by simp) (dx 10 ((y.alloc (.cells #[.slice none 0 0] 96)).setCell ⟨y.heap.size,0,none⟩ (.slice a3 n3 c3)) (by kernel_rfl) (lA 6 17 (by kernel_rfl) (by kernel_rfl) (by kernel_rfl) hcell hfree) hS2 ?_ aY);refine aj 11 (some 7) (.bool false) (by kernel_rfl) (fun _ _=>by kernel_rfl) (fun _ _ _ h=>h) hS2 ?_
   refine bj (by kernel_rfl) ?_
   simp only[Act.put,List.setIfInBounds_toArray,List.set_cons_zero,List.set_cons_succ];have FIN:=aB (And.intro (b3.setCell (i:=0) (.slice a3 n3 c3)) (And.intro (ij CS b3 O3) (And.intro (ij CS b3 O1) (And.intro hS2 (BW.trans (CS.below (B:=w.heap.size) (fun b e=>by omega) BW.size))))));have g3:=aB (show w.heap.size<=y.heap.size by omega);clear hcell hfree CS b3 O3 hS bA O1 BW hS2 HU BX HG;generalize (y.alloc (.cells #[.slice none 0 0] 96)).setCell ⟨y.heap.size,0,none⟩ (.slice a3 n3 c3)=Z at *;go_wp2;go_ret;exact⟨_,_,_,_,_,rfl,Nat.le_refl _,by omega,g3.out,FIN.out.2.2.2.1.1,FIN.out.2.2.2.1.2.2,FIN.out.1,FIN.out.2.2.1,FIN.out.2.1,FIN.out.2.2.2.2⟩
  ·replace hS:=hS.keep bA;replace O1:=O1.keep bA;have BX2:=ah BX bA;have b3:=aC X [.slice none 0 0] 96
   have hs3:X.heap.size < (X.alloc (.cells #[.slice none 0 0] 96)).heap.size:=by simp
   refine aV 5 (some 16) 170 #[.pointer (some ⟨m,0,none⟩),.slice a1 n1 c1] (by kernel_rfl) (by kernel_rfl) (HU.out _ _ BX2 O1.by) ?_
   rintro e' y ⟨v3,rfl,O3,B3⟩;obtain⟨a3,c3,rfl⟩:∃ a3 c3,v3=.slice a3 L.length c3:=(by obtain⟨a3,c3,e,_⟩:=O3.by.ex; exact⟨a3,c3,e⟩)
   refine⟨_,rfl,hS.keep B3,?_⟩;replace hS:=hS.keep B3;replace O1:=O1.keep B3;generalize L.length=n3 at *;refine aj 6 (some 10) (.tuple #[.slice a3 n3 c3,.bool false]) (by kernel_rfl) (fun _ _=>by kernel_rfl) (fun _ _ _ h=>h) hS ?_
   refine aj 7 (some 17) (.slice a3 n3 c3) (by kernel_rfl) (fun _ _=>by kernel_rfl) (fun _ _ _ h=>h) hS ?_
   refine aj 8 (some 18) (.bool false) (by kernel_rfl) (fun _ _=>by kernel_rfl) (fun _ _ _ h=>h) hS ?_
   have BW:=ah BX2 B3;replace b3:=b3.keep B3;replace O3:=O3.mono (D':=(w.heap.size <= ·)) (fun b _ h=>by have h':(X.alloc (.cells #[.slice none 0 0] 96)).heap.size<=b:=h; omega);have hcell:=b3.cell (i:=0) rfl;have hfree:=b3.free 0
   have CS:Chg (· = X.heap.size) (y) ((y).setCell ⟨X.heap.size,0,none⟩ (.slice a3 n3 c3)):=(Chg.refl (· = X.heap.size) (y)).cell (.inl rfl) _
   have hS2:Rds g m w.heap.size w1.heap.size jv n (.slice a1 n1 c1) ((y).setCell ⟨X.heap.size,0,none⟩ (.slice a3 n3 c3)):=⟨hS.1.chg CS (by omega),hS.2.1.chg CS (by omega),hS.2.2.chg CS (by omega)⟩
   refine aN [10] (by kernel_rfl) (by simp) (dx 10 ((y).setCell ⟨X.heap.size,0,none⟩ (.slice a3 n3 c3)) (by kernel_rfl) (lA 6 17 (by kernel_rfl) (by kernel_rfl) (by kernel_rfl) hcell hfree) hS2 ?_ aY);refine aj 11 (some 7) (.bool false) (by kernel_rfl) (fun _ _=>by kernel_rfl) (fun _ _ _ h=>h) hS2 ?_
   refine bj (by kernel_rfl) ?_
   simp only[Act.put,List.setIfInBounds_toArray,List.set_cons_zero,List.set_cons_succ];have FIN:=aB (And.intro (b3.setCell (i:=0) (.slice a3 n3 c3)) (And.intro (ij CS b3 O3) (And.intro (ij CS b3 O1) (And.intro hS2 (BW.trans (CS.below (B:=w.heap.size) (fun b e=>by omega) BW.size))))));have g3:=aB (show w.heap.size<=X.heap.size by omega);clear hcell hfree CS b3 O3 hS bA O1 BW hS2 HU BX HG;generalize (y).setCell ⟨X.heap.size,0,none⟩ (.slice a3 n3 c3)=Z at *;go_wp2;go_ret;exact⟨_,_,_,_,_,rfl,Nat.le_refl _,by omega,g3.out,FIN.out.2.2.2.1.1,FIN.out.2.2.2.1.2.2,FIN.out.1,FIN.out.2.2.1,FIN.out.2.1,FIN.out.2.2.2.2⟩
 ·go_enter Tryz.func145,Tryz.ntmps145;go_wp2_with (go_at_call 78; refine t1.mono ?_; rintro e w1 ⟨v1,rfl,O1,B1⟩; obtain⟨a1,c1,rfl⟩:∃ a1 c1,v1=.slice a1 k.length c1:=(by obtain⟨a1,c1,e,_⟩:=O1.by.ex; exact⟨a1,c1,e⟩));rw[hln] at O1;have aw1:=B1.size;have al2:=ae w1 (.cells #[.slice a1 n1 c1] 96)
  have hS:Rds g m w.heap.size w1.heap.size jv n (.slice a1 n1 c1) (w1.alloc (.cells #[.slice a1 n1 c1] 96)).drew:=⟨((b1.keep B1).keep al2).drew,(((HG.out.keep al).keep B1).keep al2).drew,(aC w1 [.slice a1 n1 c1] 96).drew⟩
  have BX:Below w.heap.size w (w1.alloc (.cells #[.slice a1 n1 c1] 96)).drew:=ah (ah (ah al B1) al2) ⟨rfl,rfl,rfl,Nat.le_refl _,fun _ _=>rfl⟩
  have hXs:w1.heap.size < (w1.alloc (.cells #[.slice a1 n1 c1] 96)).drew.heap.size:=by show _ < (w1.alloc _).heap.size; simp
  replace O1:=((O1.mono (D':=(w.heap.size <= ·)) (fun b _ h=>by omega)).keep al2).keep (w':=(w1.alloc (.cells #[.slice a1 n1 c1] 96)).drew) ⟨rfl,rfl,rfl,Nat.le_refl _,fun _ _=>rfl⟩;clear t1 al2 b1 al;clear B1;refine bF (S:=Rds g m w.heap.size w1.heap.size jv n (.slice a1 n1 c1)) (by kernel_rfl) hS ?_
  generalize (w1.alloc (.cells #[.slice a1 n1 c1] 96)).drew=X at *;refine aM 0 (some 11) (.pointer (some ⟨g,0,none⟩)) 37 2 w.heap.size 0 (by kernel_rfl) (by kernel_rfl) (by kernel_rfl) (fun w' h=>DB (h.1.cell (i:=0) rfl)) (fun _ _ _ h=>h) hS ?_
  refine aj 1 (some 12) (.pointer (some ⟨g,0,none⟩)) (by kernel_rfl) (fun _ _=>by kernel_rfl) (fun _ _ _ h=>h) hS ?_
  refine aj 2 (some 13) (.pointer (some ⟨g,0,none⟩)) (by kernel_rfl) (fun _ _=>by kernel_rfl) (fun _ _ _ h=>h) hS ?_
  refine aM 3 (some 14) (.pointer (some ⟨m,0,none⟩)) 86 13 g 0 (by kernel_rfl) (by kernel_rfl) (by kernel_rfl) (fun w' h=>xB (h.2.1.cell (i:=0) rfl)) (fun _ _ _ h=>h) hS ?_
  refine aM 4 (some 15) (.slice a1 n1 c1) 96 5 w1.heap.size 0 (by kernel_rfl) (by kernel_rfl) (by kernel_rfl) (fun w' h=>Dz (h.2.2.cell (i:=0) rfl)) (fun _ _ _ h=>h) hS ?_
  have bA:=ae X (.cells #[.slice none 0 0] 96);refine aN [5,9] (by kernel_rfl) (by simp) (uf 5 (some 16) 170 #[.pointer (some ⟨m,0,none⟩),.slice a1 n1 c1] (by kernel_rfl) (by kernel_rfl) (HU.out _ _ BX O1.by) ?_ (bN 9 (some 6) (.pointer (some ⟨X.heap.size,0,none⟩)) (X.alloc (.cells #[.slice none 0 0] 96)) (by kernel_rfl) (by kernel_rfl) (hS.keep bA) ?_ aY))
  ·rintro e' y ⟨v3,rfl,O3,B3⟩;obtain⟨a3,c3,rfl⟩:∃ a3 c3,v3=.slice a3 L.length c3:=(by obtain⟨a3,c3,e,_⟩:=O3.by.ex; exact⟨a3,c3,e⟩)
   refine⟨_,rfl,hS.keep B3,?_⟩;replace hS:=hS.keep B3;replace O1:=O1.keep B3;generalize L.length=n3 at *;refine aj 6 (some 10) (.tuple #[.slice a3 n3 c3,.bool true]) (by kernel_rfl) (fun _ _=>by kernel_rfl) (fun _ _ _ h=>h) hS ?_
   refine aj 7 (some 17) (.slice a3 n3 c3) (by kernel_rfl) (fun _ _=>by kernel_rfl) (fun _ _ _ h=>h) hS ?_
   refine aj 8 (some 18) (.bool true) (by kernel_rfl) (fun _ _=>by kernel_rfl) (fun _ _ _ h=>h) hS ?_
   have BW:=ah BX B3;have hX3:=B3.size;refine aN [9] (by kernel_rfl) (by simp) (bN 9 (some 6) (.pointer (some ⟨y.heap.size,0,none⟩)) (y.alloc (.cells #[.slice none 0 0] 96)) (by kernel_rfl) (by kernel_rfl) (hS.keep (ae y _)) ?_ aY);have bY:=ae y (.cells #[.slice none 0 0] 96);replace hS:=hS.keep bY;replace O1:=O1.keep bY;replace O3:=(O3.mono (D':=(w.heap.size <= ·)) (fun b _ h=>by have h':X.heap.size<=b:=h; omega)).keep bY;have b3:=aC y [.slice none 0 0] 96;replace BW:=ah BW bY;have hcell:=b3.cell (i:=0) rfl;have hfree:=b3.free 0
   have CS:Chg (· = y.heap.size) (y.alloc (.cells #[.slice none 0 0] 96)) ((y.alloc (.cells #[.slice none 0 0] 96)).setCell ⟨y.heap.size,0,none⟩ (.slice a3 n3 c3)):=(Chg.refl (· = y.heap.size) (y.alloc (.cells #[.slice none 0 0] 96))).cell (.inl rfl) _
   have hS2:Rds g m w.heap.size w1.heap.size jv n (.slice a1 n1 c1) ((y.alloc (.cells #[.slice none 0 0] 96)).setCell ⟨y.heap.size,0,none⟩ (.slice a3 n3 c3)):=⟨hS.1.chg CS (by omega),hS.2.1.chg CS (by omega),hS.2.2.chg CS (by omega)⟩
   refine aN [10] (by kernel_rfl) (by simp) (dx 10 ((y.alloc (.cells #[.slice none 0 0] 96)).setCell ⟨y.heap.size,0,none⟩ (.slice a3 n3 c3)) (by kernel_rfl) (lA 6 17 (by kernel_rfl) (by kernel_rfl) (by kernel_rfl) hcell hfree) hS2 ?_ aY);refine aj 11 (some 7) (.bool true) (by kernel_rfl) (fun _ _=>by kernel_rfl) (fun _ _ _ h=>h) hS2 ?_
   refine bj (by kernel_rfl) ?_
   simp only[Act.put,List.setIfInBounds_toArray,List.set_cons_zero,List.set_cons_succ];have FIN:=aB (And.intro (b3.setCell (i:=0) (.slice a3 n3 c3)) (And.intro (ij CS b3 O3) (And.intro (ij CS b3 O1) (And.intro hS2 (BW.trans (CS.below (B:=w.heap.size) (fun b e=>by omega) BW.size))))));have g3:=aB (show w.heap.size<=y.heap.size by omega);clear hcell hfree CS b3 O3 hS bA O1 BW hS2 HU BX HG;generalize (y.alloc (.cells #[.slice none 0 0] 96)).setCell ⟨y.heap.size,0,none⟩ (.slice a3 n3 c3)=Z at *;go_wp2;go_ret;exact⟨_,_,_,_,_,rfl,Nat.le_refl _,by omega,g3.out,FIN.out.2.2.2.1.1,FIN.out.2.2.2.1.2.2,FIN.out.1,FIN.out.2.2.1,FIN.out.2.1,FIN.out.2.2.2.2⟩
  ·replace hS:=hS.keep bA;replace O1:=O1.keep bA;have BX2:=ah BX bA;have b3:=aC X [.slice none 0 0] 96
   have hs3:X.heap.size < (X.alloc (.cells #[.slice none 0 0] 96)).heap.size:=by simp
   refine aV 5 (some 16) 170 #[.pointer (some ⟨m,0,none⟩),.slice a1 n1 c1] (by kernel_rfl) (by kernel_rfl) (HU.out _ _ BX2 O1.by) ?_
   rintro e' y ⟨v3,rfl,O3,B3⟩;obtain⟨a3,c3,rfl⟩:∃ a3 c3,v3=.slice a3 L.length c3:=(by obtain⟨a3,c3,e,_⟩:=O3.by.ex; exact⟨a3,c3,e⟩)
   refine⟨_,rfl,hS.keep B3,?_⟩;replace hS:=hS.keep B3;replace O1:=O1.keep B3;generalize L.length=n3 at *;refine aj 6 (some 10) (.tuple #[.slice a3 n3 c3,.bool true]) (by kernel_rfl) (fun _ _=>by kernel_rfl) (fun _ _ _ h=>h) hS ?_
   refine aj 7 (some 17) (.slice a3 n3 c3) (by kernel_rfl) (fun _ _=>by kernel_rfl) (fun _ _ _ h=>h) hS ?_
   refine aj 8 (some 18) (.bool true) (by kernel_rfl) (fun _ _=>by kernel_rfl) (fun _ _ _ h=>h) hS ?_
   have BW:=ah BX2 B3;replace b3:=b3.keep B3;replace O3:=O3.mono (D':=(w.heap.size <= ·)) (fun b _ h=>by have h':(X.alloc (.cells #[.slice none 0 0] 96)).heap.size<=b:=h; omega);have hcell:=b3.cell (i:=0) rfl;have hfree:=b3.free 0
   have CS:Chg (· = X.heap.size) (y) ((y).setCell ⟨X.heap.size,0,none⟩ (.slice a3 n3 c3)):=(Chg.refl (· = X.heap.size) (y)).cell (.inl rfl) _
   have hS2:Rds g m w.heap.size w1.heap.size jv n (.slice a1 n1 c1) ((y).setCell ⟨X.heap.size,0,none⟩ (.slice a3 n3 c3)):=⟨hS.1.chg CS (by omega),hS.2.1.chg CS (by omega),hS.2.2.chg CS (by omega)⟩
   refine aN [10] (by kernel_rfl) (by simp) (dx 10 ((y).setCell ⟨X.heap.size,0,none⟩ (.slice a3 n3 c3)) (by kernel_rfl) (lA 6 17 (by kernel_rfl) (by kernel_rfl) (by kernel_rfl) hcell hfree) hS2 ?_ aY);refine aj 11 (some 7) (.bool true) (by kernel_rfl) (fun _ _=>by kernel_rfl) (fun _ _ _ h=>h) hS2 ?_
   refine bj (by kernel_rfl) ?_
   simp only[Act.put,List.setIfInBounds_toArray,List.set_cons_zero,List.set_cons_succ];have FIN:=aB (And.intro (b3.setCell (i:=0) (.slice a3 n3 c3)) (And.intro (ij CS b3 O3) (And.intro (ij CS b3 O1) (And.intro hS2 (BW.trans (CS.below (B:=w.heap.size) (fun b e=>by omega) BW.size))))));have g3:=aB (show w.heap.size<=X.heap.size by omega);clear hcell hfree CS b3 O3 hS bA O1 BW hS2 HU BX HG;generalize (y).setCell ⟨X.heap.size,0,none⟩ (.slice a3 n3 c3)=Z at *;go_wp2;go_ret;exact⟨_,_,_,_,_,rfl,Nat.le_refl _,by omega,g3.out,FIN.out.2.2.2.1.1,FIN.out.2.2.2.1.2.2,FIN.out.1,FIN.out.2.2.1,FIN.out.2.1,FIN.out.2.2.2.2⟩
end
end Kv
end
section
namespace Kv
open Go.RowKit Go.Lib Pg
section
variable {w:World} {b n c i:Nat} {xs:List Value}
end
end Kv
end
section
namespace Kv
open Go.RowKit Go.Lib Pg
section
variable {w:World}{V D:Nat->Prop}{g:Nat}{j:Jr}{cs':List Value}{bv jv:Value}{l:List Nat}{o:Option Nat}{Q:List (List KV)}{T0:List Jr}
attribute [local go_sem] Oper.semAt_some
theorem rn(ao:Option Addr)(n c:Nat)(hn:n<=c)(bo:Option Addr)(c':Nat):(Builtin.append_ #[270,270] 270 #[.slice ao n c,.slice bo 0 c']).run Tryz.prog w=.ok (.slice ao n c) w:=by
 obtain⟨i,hi,hz,hs,hb⟩:=info_parts KF.inf;have:(Builtin.firstCells i.size 0 (.slice bo 0 c')).run Tryz.prog w=.ok #[] w:=by
  cases bo with
  | none=>rfl
  | some a=>exact run_firstCells_some w i.size 0 a 0 c' [] (by simp) (fun j v hj=>by simp at hj)
 cases ao with
 | none=>simp[Builtin.append_,run_underlying KF.und,sizeOf,typeInfo,hi,Builtin.lenOf,this,hn]
 | some a=>simp[Builtin.append_,run_underlying KF.und,sizeOf,typeInfo,hi,Builtin.lenOf,this,hn,storeCells]
def Lies(w:World)(bv:Value)(cs:List Value):Prop:=(bv=.slice none 0 0/\cs=[])\/∃ a c,bv=.slice (some a) cs.length c/\∀ i x,cs[i]? = some x->w.cell? (a.add i)=some x
theorem yL{U':List Und}(hj:JrA w V D g j)(hC:iM w V D g U' cs')(hb:Lies w bv cs')(hlen:j.U.length + U'.length<=1000000000) :
  ∃ v' o' w',(Builtin.append_ #[270,270] 270 #[j.v,bv]).run Tryz.prog w=.ok v' w'/\(∃ ao n c,v'=.slice ao n c)/\JrA w' V D g ⟨j.U ++ U',v',o'⟩/\(∀ b,o'=some b->j.o=some b\/b=w.heap.size)/\Chg (fun b=>j.o=some b) w w':=by
 obtain⟨cs,hc,hr⟩:=hj;have hlc:=hC.1;by_cases hz:U'=[]
 ·subst hz
  have hcs:cs'=[]:=List.eq_nil_of_length_eq_zero (by rw[hlc]; rfl);subst hcs;obtain⟨bo,c',rfl⟩:∃ bo c',bv=.slice bo 0 c':=by
   rcases hb with⟨e,_⟩ | ⟨a,c,e,_⟩
   ·exact⟨none,0,e⟩
   ·exact⟨some a,c,e⟩
  rcases hr with⟨e1,e2,e3⟩ | ⟨b,c,e1,e2,hR⟩
  ·refine⟨_,j.o,w,by rw[e2]; exact rn none 0 0 (Nat.le_refl _) bo c',⟨none,0,0,rfl⟩,⟨cs,by simpa using hc,.inl ⟨e1,rfl,by simpa using e3⟩⟩,fun b h=>.inl h,Chg.refl _ _⟩
  ·refine⟨_,j.o,w,by rw[e2]; exact rn _ _ _ hR.le.1 bo c',⟨_,_,_,rfl⟩,⟨cs,by simpa using hc,.inr ⟨b,c,e1,by simp,by simpa using hR⟩⟩,fun b h=>.inl h,Chg.refl _ _⟩
 ·obtain⟨a,ca,rfl,hcell⟩:∃ a c,bv=.slice (some a) cs'.length c/\∀ i x,cs'[i]? = some x->w.cell? (a.add i)=some x:=by
   rcases hb with⟨_,e⟩ | h
   ·rw[e] at hlc; exact absurd (List.eq_nil_of_length_eq_zero hlc.symm) hz
   ·exact h
  have hpos:0 < cs'.length:=by rw[hlc]; exact List.length_pos_iff.2 hz
  rcases hr with⟨e1,e2,e3⟩ | ⟨b,c,e1,e2,hR⟩
  ·have hcs:cs=[]:=List.eq_nil_of_length_eq_zero (by rw[hc.1,e3]; rfl);subst hcs;obtain⟨c',W,h1,hR',hB⟩:=fx (w:=w) KF 270 a cs'.length ca cs' (by simp) hcell hpos (by omega) (by omega);refine⟨_,some w.heap.size,W,by rw[e2]; exact h1,⟨_,_,_,rfl⟩,⟨cs',?_,.inr ⟨_,c',rfl,by rw[e3,hlc]; rfl,by rw[e3]; simpa[hlc] using hR'⟩⟩,fun b h=>.inr (by cases h; rfl),Chg.of hB⟩;rw[e3];exact hC.stay ⟨fun b _ _ _ k _=>hB.block b k.lt,fun b hl _ _=>hB.block b hl⟩
  ·obtain⟨b',c',W,h1,hb',hR',hCh⟩:=dI KF 270 hR a cs'.length ca cs' (by simp) hcell hC.one (by omega) (by omega);obtain⟨cs0,hk0⟩:=hR.kind
   have hst:ll V D w W:=lG hk0 (by decide) (by decide) (by decide) hCh;refine⟨_,some b',W,by rw[e2]; exact h1,⟨_,_,_,rfl⟩,⟨cs ++ cs',(hc.stay hst).app (hC.stay hst),.inr ⟨b',c',rfl,by simp[hlc],by simpa[hlc] using hR'⟩⟩,fun x h => ?_,hCh.mono (fun x _ e=>by have e':x=b:=e; rw[e',e1])⟩
   cases h;rcases hb' with e | e
   ·exact .inl (by rw[e1,e])
   ·exact .inr e
theorem rI(T0:List Jr)(j:Jr):tot (T0 ++ [j])=tot T0 + j.U.length:=by simp[tot]
theorem lS : (l ++ o.toList).Nodup ↔ l.Nodup ∧ ∀ b, o = some b → b ∉ l := by
  cases o with
  | none => simp
  | some x => simp[List.nodup_append]; intro _; constructor
              · intro h hx; exact h x hx rfl
              · intro h a ha e; subst e; exact h ha
theorem uT(T0:List Jr)(j:Jr):(T0 ++ [j]).filterMap Jr.o=T0.filterMap Jr.o ++ j.o.toList:=by
 rw[List.filterMap_append];congr 1
theorem SX.inner{w2:World}{K F:Nat->Prop}{m jb:Nat}{j':Jr}{n N N':Nat}(h:SX w K D F V g m Q jv (T0 ++ [j]) (some jb) n N)(hj:JrA w2 V D g j')(ho:∀ b,j'.o=some b->j.o=some b\/w.heap.size<=b)(hN:N<=N')(ht:Kv.tot (T0 ++ [j']) + Q.flatten.length<=N')(hrow:∃ c,jv=.slice (some ⟨jb,0,none⟩) (T0 ++ [j]).length c/\Rw w2 273 1 jb (T0 ++ [j]).length c ((T0 ++ [j']).map Jr.v))(hc:Chg (fun b=>j.o=some b\/b=jb) w w2) :
  SX w2 (fun b=>(K b/\¬ j.o=some b)\/j'.o=some b) D F V g m Q jv (T0 ++ [j']) (some jb) n N':=by
 have hjm:j∈T0 ++ [j]:=by simp
 have hx:∀ b cs t,Blk w b cs t->t≠1->t≠273->w2.heap[b]? = w.heap[b]? := fun b cs t k h1 h2=>hc.same b k.lt (fun e=>by
  rcases e with e | e
  ·obtain⟨cs',k'⟩:=(h.jn.each j hjm).kind e;exact h1 (k.eq k').2
  ·subst e;obtain⟨cs',k'⟩:=h.jn.kind rfl;exact h2 (k.eq k').2)
 have hnF:∀ b,(j.o=some b\/b=jb)->¬ F b:=fun b e=>e.elim (h.own.nB j hjm b) (fun e=>by subst e; exact h.own.ri _ rfl)
 have hst:ll V D w w2:=⟨fun b cs t _ k ht=>hx b cs t k (by rcases ht with e | e<;>subst e<;>decide) (by rcases ht with e | e<;>subst e<;>decide),fun b _ _ k=>by obtain⟨cs,k⟩:=k; exact hx b cs _ k (by decide) (by decide)⟩
 have hlt:∀ t∈T0 ++ [j],∀ b,t.o=some b->b < w.heap.size:=fun t ht b e=>by obtain⟨cs,k⟩:=(h.jn.each t ht).kind e; exact k.lt
 have hap:=h.jn.apart;rw[uT,lS] at hap;refine⟨⟨by rw[hx g _ _ h.blk (by decide) (by decide)]; exact h.blk.blk⟩,h.map.same (fun b hF=>hc.same b (h.map.lt hF) (fun e=>hnF b e hF)) (fun b _ _ k=>by obtain⟨cs,k⟩:=k; exact hx b cs _ k (by decide) (by decide)) |>.more hN,⟨?_,?_,?_⟩,ht,by have:=h.len; simp at this ⊢; omega,?_⟩
 ·obtain⟨c,e,hR⟩:=hrow;exact .inr ⟨jb,c,rfl,by rw[e]; simp,by simpa using hR⟩
 ·intro t ht;rcases List.mem_append.1 ht with h0 | h0
  ·refine(h.jn.each t (List.mem_append_left _ h0)).stay hst (fun b e => ?_);refine hc.same b (hlt t (List.mem_append_left _ h0) b e) (fun e2 => ?_);rcases e2 with e2 | e2
   ·exact hap.2 b e2 (List.mem_filterMap.2 ⟨t,h0,e⟩)
   ·subst e2;obtain⟨cs,k⟩:=(h.jn.each t (List.mem_append_left _ h0)).kind e;obtain⟨cs',k'⟩:=h.jn.kind rfl;exact absurd (k.eq k').2 (by decide)
  ·simp at h0; subst h0; exact hj
 ·rw[uT,lS];refine⟨hap.1,fun b e hm => ?_⟩;rcases ho b e with h1 | h1
  ·exact hap.2 b h1 hm
  ·obtain⟨t,h2,h3⟩:=List.mem_filterMap.1 hm;have:=hlt t (List.mem_append_left _ h2) b h3;omega
 ·have nj:∀ b cs t,Blk w b cs t->t≠1->¬ j.o=some b:=fun b cs t k h1 e=>by
   obtain⟨cs',k'⟩:=(h.jn.each j hjm).kind e;exact h1 (k.eq k').2
  refine⟨.inl ⟨h.own.top,nj g _ _ h.blk (by decide)⟩,fun b hb=>.inl ⟨h.own.map b hb,fun e=>h.own.nB j hjm b e hb⟩,fun b hb => ?_,fun b hb => ?_,fun t ht b e => ?_,fun b hb => ?_,h.own.oR,h.own.sE,h.own.ri,fun t ht b e => ?_,fun b hv=>by
   obtain⟨cs,t,k,ht⟩:=h.own.vk b hv;exact⟨cs,t,k.same (hst.var b cs t hv k ht),ht⟩⟩
  ·obtain⟨cs,t,k,ht⟩:=h.own.vk b hb;exact .inl ⟨h.own.var b hb,nj b cs t k (by rcases ht with e | e<;>subst e<;>decide)⟩
  ·cases hb;obtain⟨cs',k'⟩:=h.jn.kind rfl;exact .inl ⟨h.own.jrn _ rfl,nj _ _ _ k' (by decide)⟩
  ·rcases List.mem_append.1 ht with h0 | h0
   ·exact .inl ⟨h.own.bck t (List.mem_append_left _ h0) b e,fun e2=>hap.2 b e2 (List.mem_filterMap.2 ⟨t,h0,e⟩)⟩
   ·simp at h0; subst h0; exact .inr e
  ·rcases hb with⟨hb,hn⟩ | hb
   ·by_cases e:b=jb
    ·subst e;obtain⟨c,_,hR⟩:=hrow;obtain⟨cs,k⟩:=hR.kind;exact⟨cs,_,k,by decide⟩
    ·obtain⟨cs,t,k,ht⟩:=h.own.kind b hb;exact⟨cs,t,k.chg hc (fun e2=>e2.elim hn e),ht⟩
   ·obtain⟨cs,k⟩:=hj.kind hb;exact⟨cs,_,k,by decide⟩
  ·rcases List.mem_append.1 ht with h0 | h0
   ·exact h.own.nB t (List.mem_append_left _ h0) b e
   ·simp at h0; subst h0;rcases ho b e with h1 | h1
    ·exact h.own.nB j hjm b h1
    ·intro hF;have:=h.map.lt hF;omega
end
end Kv
end
section
namespace Kv
open Go.RowKit Go.Lib Pg
section
variable {w:World}{V D:Nat->Prop}{g:Nat}{jv bv:Value}{T0:List Jr}{j:Jr}{oj:Option Nat}{Q:List (List KV)}{cs':List Value}
attribute [local go_sem] Oper.semAt_some
theorem vS(T0:List Jr)(j j':Jr):((T0 ++ [j]).map Jr.v).set T0.length j'.v=(T0 ++ [j']).map Jr.v:=by
 rw[List.map_append,List.map_append,List.set_append_right _ _ (by simp)];simp
theorem JnA.last(h:JnA w V D g jv (T0 ++ [j]) oj):∃ jb c,oj=some jb/\jv=.slice (some ⟨jb,0,none⟩) (T0.length + 1) c/\Rw w 273 1 jb (T0.length + 1) c ((T0 ++ [j]).map Jr.v):=by
 rcases h.row with⟨_,_,e⟩ | ⟨b,c,e1,e2,hR⟩
 ·exact absurd e (by simp)
 ·exact⟨b,c,e1,by rw[e2]; simp,by simpa using hR⟩
theorem xnote{K F:Nat->Prop}{m:Nat}{n N:Nat}{U':List Und}(h:SX w K D F V g m Q jv (T0 ++ [j]) oj n N)(hC:iM w V D g U' cs')(hb:Lies w bv cs'){N':Nat}(hN1:N<=N')(hN2:Kv.tot (T0 ++ [j]) + U'.length + Q.flatten.length<=N')(hN3:N'<=1000000000) :
  Calls Tryz.prog 144 #[.pointer (some ⟨g,0,none⟩),bv] w fun e w'=>e=.returned (.tuple #[])/\∃ K' j',j'.U=j.U ++ U'/\SX w' K' D F V g m Q jv (T0 ++ [j']) oj n N'/\(∀ b,K' b->K b\/w.heap.size<=b)/\Chg K w w':=by
 have hlen:j.U.length + U'.length<=1000000000:=by rw[rI] at hN2; omega
 obtain⟨jb,c,rfl,rfl,hR⟩:=h.jn.last;obtain⟨v',o',w1,hr,⟨ao,n',c',rfl⟩,hJ,ho,hc1⟩:=yL (h.jn.each j (by simp)) hC hb hlen
 have hjm:j∈T0 ++ [j]:=by simp
 have ud:=oe h.blk;have c1:=h.blk.cell (i:=1) rfl;have hcell:=hR.cell (i:=T0.length) (v:=j.v) (by simp)
 have hjb:¬ j.o=some jb:=fun e=>by
  obtain⟨cs,k⟩:=(h.jn.each j hjm).kind e;obtain⟨cs',k'⟩:=hR.kind;exact absurd (k.eq k').2 (by decide)
 have hR1:=hR.chg hc1 hjb;have hcell1:=hR1.cell (i:=T0.length) (v:=j.v) (by simp);have hfree1:=hR1.free T0.length;have hle:=hR.le
 have hvs:∃ a1 n1 c1,j.v=.slice a1 n1 c1:=by
  obtain⟨cs,_,⟨_,e,_⟩ | ⟨b,c,_,e,_⟩⟩:=h.jn.each j hjm
  ·exact⟨_,_,_,e⟩
  ·exact⟨_,_,_,e⟩
 obtain⟨a1,n1,c2,hjv⟩:=hvs;rw[hjv] at hcell hcell1 hr
 have hbs:∃ a2 n2 c3,bv=.slice a2 n2 c3:=by
  rcases hb with⟨e,_⟩ | ⟨a,c,e,_⟩
  ·exact⟨_,_,_,e⟩
  ·exact⟨_,_,_,e⟩
 obtain⟨a2,n2,c3,hbv⟩:=hbs;subst hbv
 have hg0:(0:Int) < (T0.length:Int) + 1:=by omega
 have hg1:(T0.length:Int)<=16:=by have:=h.len; simp at this; omega
 have FIN:Hid (∃ K' j',j'.U=j.U ++ U'/\SX (w1.setCell ⟨jb,T0.length,none⟩ (.slice ao n' c')) K' D F V g m Q (.slice (some ⟨jb,0,none⟩) (T0.length + 1) c) (T0 ++ [j']) (some jb) n N'/\(∀ b,K' b->K b\/w.heap.size<=b)/\Chg K w (w1.setCell ⟨jb,T0.length,none⟩ (.slice ao n' c'))):=by
  have hc2:Chg (fun b=>j.o=some b\/b=jb) w (w1.setCell ⟨jb,T0.length,none⟩ (.slice ao n' c')):=(hc1.mono (fun b _ e=>.inl e)).cell (.inl (.inr rfl)) _;obtain⟨cs,kj⟩:=hR1.kind
  have hJ2:JrA (w1.setCell ⟨jb,T0.length,none⟩ (.slice ao n' c')) V D g ⟨j.U ++ U',.slice ao n' c',o'⟩:=hJ.stay (lG kj (by decide) (by decide) (by decide) ((Chg.refl (· = jb) w1).cell (.inl rfl) _)) (fun b e=>by
   have hne:b≠jb:=fun e2=>by
    subst e2;obtain⟨cs',k'⟩:=hJ.kind e;exact absurd (k'.eq kj).2 (by decide)
   exact Below.heap_setCell _ _ _ _ hne)
  have hS:=h.inner (j':=⟨j.U ++ U',.slice ao n' c',o'⟩) hJ2 (fun b e=>(ho b e).imp id (fun e=>by omega)) (N':=N') hN1 (by rw[rI] at hN2 ⊢; simp only[List.length_append]; omega) ⟨c,by simp,by
   have:=hR1.set T0.length (by simp) (.slice ao n' c');rw[vS T0 j ⟨j.U ++ U',.slice ao n' c',o'⟩] at this;simpa using this⟩ hc2
  refine⟨_,_,rfl,hS,fun b hb => ?_,hc2.mono (fun b _ e => ?_)⟩
  ·rcases hb with hb | hb
   ·exact .inl hb.1
   ·rcases ho b hb with e | e
    ·exact .inl (h.own.bck j hjm b e)
    ·exact .inr (by omega)
  ·rcases e with e | e
   ·exact h.own.bck j hjm b e
   ·subst e; exact h.own.jrn _ rfl
 clear h hC hb hR hR1 hJ ho hc1 hjb hlen;generalize T0.length=q at *;go_enter Tryz.func144,Tryz.ntmps144;go_wp2_with first
  | (go_at_call 143; go_must (refine ud.mono ?_); rintro e y ⟨rfl,hy⟩; replace hy:=hy.symm; subst hy)
  | (at_builtin; refine Lib.wpList_append_run _ rfl _ _ _ _ rfl _ _ rfl rfl _ _ hr ?_)
 go_end0;exact⟨rfl,FIN.out⟩
end
end Kv
end
section
namespace Kv
open Go.RowKit Go.Lib Pg
section
variable {w:World}{K D F V:Nat->Prop}{g m n N:Nat}{Q:List (List KV)}{jv kv:Value}{T T0:List Jr}{oj:Option Nat}{k:List Int}
attribute [local go_sem] Oper.semAt_some
theorem wH(h:SX w K D F V g m Q jv T oj n N)(hk:By w kv k)(hkl:k.length<=1000000000)(hN:N<=100000000) :
  Calls Tryz.prog 145 #[.pointer (some ⟨g,0,none⟩),kv] w fun e w'=>∃ (c:Value) (S:Nat->Prop),e=.returned c/\(∃ f cap,c=.func (.func f) #[] cap)/\SX w' (fun b=>K b\/S b) (fun b=>D b\/w.heap.size<=b) F (fun b=>V b\/S b) g m Q jv T oj n N/\nC w' (fun b=>V b\/S b) (fun b=>D b\/w.heap.size<=b) g (k,look Q.flatten k) c/\(∀ b,S b->w.heap.size<=b)/\Below w.heap.size w w':=by
 refine(oX (there:=(look Q.flatten k).isSome) (L:=(look Q.flatten k).getD []) h.blk hk hkl (fun w' kv' hB hY=>(jM (h.keep hB) hY hN).mono fun e w'' h=>h)).mono ?_
 rintro e w' ⟨s1,s2,s3,v1,v3,rfl,g1,g2,g3,b1,b2,b3,o1,o3,B⟩;have hX:=(h.keep B).vars (S:=fun b=>b=s1\/b=s2\/b=s3) (fun b hb hF=>by have:=h.map.lt hF; rcases hb with rfl | rfl | rfl<;>omega) (fun b hb=>by
  rcases hb with rfl | rfl | rfl
  ·exact⟨_,_,b1,.inl rfl⟩
  ·exact⟨_,_,b2,.inr rfl⟩
  ·exact⟨_,_,b3,.inr rfl⟩) (D':=fun b=>D b\/w.heap.size<=b) (fun _ _ h=>.inl h)
 refine⟨_,fun b=>b=s1\/b=s2\/b=s3,rfl,⟨_,_,rfl⟩,hX,⟨⟨hkl,fun x hx => ?_⟩,s1,s2,v1,.inr (.inl rfl),.inr (.inr (.inl rfl)),b1,b2,o1.mono (fun _ _ h=>.inr h),?_⟩,(fun b hb=>by rcases hb with rfl | rfl | rfl<;>assumption),B⟩
 ·exact(h.map.small _ (jH hx)).2
 ·cases hl:look Q.flatten k with
  | none=>exact .inl ⟨rfl,by simp⟩
  | some x=>exact .inr ⟨s3,v3,x,.inr (.inr (.inr rfl)),b3,by rw[hl] at o3; exact o3.mono (fun _ _ h=>.inr h),rfl,by simp⟩
theorem mw(h:SX w K D F V g m Q jv [] oj n N) :
  Calls Tryz.prog 96 #[.pointer (some ⟨g,0,none⟩),kv] w fun e w'=>e=.returned (.tuple #[])/\w'=w:=by
 have ud:=zM h;clear h;go_enter Tryz.func96,Tryz.ntmps96;go_wp2_with (go_at_call 143; go_must (refine ud.mono ?_); rintro e y ⟨rfl,hy⟩; replace hy:=hy.symm; subst hy);go_end0;exact⟨rfl,rfl⟩
theorem oE{j:Jr}(h:SX w K D F V g m Q jv (T0 ++ [j]) oj n N)(hk:By w kv k)(hkl:k.length<=1000000000)(hN:N<=100000000) :
  Calls Tryz.prog 96 #[.pointer (some ⟨g,0,none⟩),kv] w fun e w'=>e=.returned (.tuple #[])/\∃ K' V' j',j'.U=j.U ++ [(k,look Q.flatten k)]/\SX w' K' (fun b=>D b\/w.heap.size<=b) F V' g m Q jv (T0 ++ [j']) oj n (N + 1)/\(∀ b,K' b->K b\/w.heap.size<=b)/\Chg K w w':=by
 have ud:=zM h;have ur:=wH h hk hkl hN;obtain⟨ao,c,rfl,-⟩:=id hk.ex;generalize k.length=kn at *
 have hl:(0:Int) < ((T0 ++ [j]).length:Int):=by simp
 have HK:Hid (∀ b,K b->b < w.heap.size):=fun b hb=>by obtain⟨cs,t,k,_⟩:=h.own.kind b hb; exact k.lt
 clear h hk;generalize (T0 ++ [j]).length=tl at *;go_enter Tryz.func96,Tryz.ntmps96;go_wp2_with first
  | (go_at_call 143; go_must (refine ud.mono ?_); rintro e y ⟨rfl,hy⟩; replace hy:=hy.symm; subst hy)
  | (go_at_call 145; go_must (refine ur.mono ?_); rintro e w1 ⟨cl,S,rfl,⟨f,cap,rfl⟩,X1,A1,hS,B1⟩; have al:=ae w1 (.cells #[.func (.func f) #[] cap] 1); have bl:=aC w1 [.func (.func f) #[] cap] 1; have CL:iM (w1.alloc (.cells #[.func (.func f) #[] cap] 1)) (fun b=>V b\/S b) (fun b=>D b\/w.heap.size<=b) g [(k,look Q.flatten k)] [.func (.func f) #[] cap]:=⟨rfl,(fun i u c hu hc=>by (have hi:i=0:=(by have:=(List.getElem?_eq_some_iff.1 hu).1; simp at this; omega)); subst hi; simp at hu hc; subst hu; subst hc; exact A1.stay ⟨fun b _ _ _ k _=>al.block b k.lt,fun b hl _ _=>al.block b hl⟩)⟩; have LI:Lies (w1.alloc (.cells #[.func (.func f) #[] cap] 1)) (.slice (some ⟨w1.heap.size,0,none⟩) 1 1) [.func (.func f) #[] cap]:=.inr ⟨_,1,rfl,(fun i x hx=>by (have hi:i=0:=(by have:=(List.getElem?_eq_some_iff.1 hx).1; simp at this; omega)); subst hi; simp at hx; subst hx; exact bl.cell (i:=0) rfl)⟩; have un:=xnote (N':=N + 1) (X1.keep al) CL LI (by omega) (by have:=X1.tot; simp only[List.length_cons,List.length_nil]; omega) (by omega); clear X1 A1 CL LI bl ud ur)
  | (go_at_call 144; go_must (refine un.mono ?_); rintro e w2 ⟨rfl,K',j',hj',X2,hK',hC⟩; clear un)
 go_end0;refine⟨rfl,K',_,j',hj',X2,fun b hb => ?_,?_⟩
 ·rcases hK' b hb with(h1 | h1) | h1
  ·exact .inl h1
  ·exact .inr (hS b h1)
  ·exact .inr (by have:=B1.size; have:=al.size; omega)
 ·have B2:=ah B1 al;exact(Chg.of (F:=K) B2).trans hC (fun b hb e=>e.elim id (fun e=>by have:=hS b e; omega))
def BK(w:World)(K:Nat->Prop)(kv:Value)(k:List Int):Prop:=∀ w',Chg K w w'->By w' kv k
theorem BK.by(h:BK w K kv k):By w kv k:=h w (Chg.refl _ _)
theorem BK.shape(h:BK w K kv k):∃ ao c,kv=.slice ao k.length c:=by
 obtain⟨ao,c,e,_⟩:=h.by.ex
 exact⟨ao,c,e⟩
theorem fm{w1 w2:World}(h:Chg K w w1)(h':Chg K w1 w2):Chg K w w2:=h.trans h' (fun _ _ h=>h)
end
end Kv
end
section
namespace Kv
open Go.RowKit Go.Lib Pg
section
variable {T0 T:List Jr}{j:Jr}{W:List aI}{E E':aI}{w w':World}{K D F V:Nat->Prop}{g m n N:Nat}{Q:List (List KV)}{jv kv vv:Value}{oj:Option Nat}{k v:List Int}
attribute [local go_sem] Oper.semAt_some
theorem nW{j':Jr}{u:Und}(h:kB ((T0 ++ [j]).reverse.map Jr.U) W E)(hj:j'.U=j.U ++ [u])(hu:zE E' u=E):kB ((T0 ++ [j']).reverse.map Jr.U) W E':=by
 rw[List.reverse_append] at h ⊢;simp only[List.reverse_cons,List.reverse_nil,List.nil_append,List.cons_append,List.map_cons] at h ⊢
 cases W with
 | nil=>exact h.elim
 | cons e W=>exact⟨by rw[hj,sG,hu]; exact h.1,h.2⟩
theorem rQ(h:kB [] W E):kB [] W E':=by
 cases W with
 | nil=>trivial
 | cons e W=>exact h.elim
def iY(k v:List Int):Int:=if k.length=0\/64 < k.length then 60 else if 4096 < v.length then 61 else 0
def Ends(w:World)(K D:Nat->Prop)(g:Nat)(E:aI)(W:List aI)(n N:Nat)(r:Value)(e:Ending)(w':World):Prop:=e=.returned r/\∃ K',SA w' K' (fun b=>D b\/w.heap.size<=b) g E W n N/\(∀ b,K' b->K b\/w.heap.size<=b)/\Chg K w w'
theorem SX.kg(h:SX w K D F V g m Q jv T oj n N)(hc:Chg (· = g) w w'):Chg K w w':=hc.mono (fun b _ e=>by have e':b=g:=e; subst e'; exact h.own.top)
theorem wV(h:SA w K D g E W n N)(hk:BK w K kv k)(hv:BK w K vv v)(hn:n<=4000000000000000000)(h0:k.length=0) :
  Calls Tryz.prog 64 #[.pointer (some ⟨g,0,none⟩),kv,vv] w (Ends w K D g E W (n + 1) (N + 2) (.int .i64 60)):=by
 obtain⟨F,V,m,Q,jv,T,oj,hX,hE,hB⟩:=h.open;obtain⟨ao,c,rfl⟩:=hk.shape;obtain⟨bo,d,rfl⟩:=hv.shape;have u:=fY hX hn;have HX:=aB hX;have HE:=aB hE;have HB:=aB hB;generalize k.length=kn at *;generalize v.length=vn at *
 have g0:(kn:Int)=0:=by omega
 clear hX hE hB h hk hv;go_enter Tryz.func64,Tryz.ntmps64;go_wp2_with (go_at_call 95; go_must (refine u.mono ?_); rintro e w1 ⟨rfl,X1,C1⟩);go_ret;exact⟨rfl,K,(X1.shut HE.out HB.out).more (by omega) |>.mono (fun _ _ h=>.inl h),fun b h=>.inl h,HX.out.kg C1⟩
theorem wM(h:SA w K D g E W n N)(hk:BK w K kv k)(hv:BK w K vv v)(hn:n<=4000000000000000000)(h0:¬ k.length=0)(h1:64 < k.length) :
  Calls Tryz.prog 64 #[.pointer (some ⟨g,0,none⟩),kv,vv] w (Ends w K D g E W (n + 1) (N + 2) (.int .i64 60)):=by
 obtain⟨F,V,m,Q,jv,T,oj,hX,hE,hB⟩:=h.open;obtain⟨ao,c,rfl⟩:=hk.shape;obtain⟨bo,d,rfl⟩:=hv.shape;have u:=fY hX hn;have HX:=aB hX;have HE:=aB hE;have HB:=aB hB;generalize k.length=kn at *;generalize v.length=vn at *
 have g0:((kn:Int)=0)=False:=eq_false (by omega)
 have g1:(64:Int) < kn:=by omega
 clear hX hE hB h hk hv;go_enter Tryz.func64,Tryz.ntmps64;go_wp2_with (go_at_call 95; go_must (refine u.mono ?_); rintro e w1 ⟨rfl,X1,C1⟩);go_ret;exact⟨rfl,K,(X1.shut HE.out HB.out).more (by omega) |>.mono (fun _ _ h=>.inl h),fun b h=>.inl h,HX.out.kg C1⟩
theorem yl(h:SA w K D g E W n N)(hk:BK w K kv k)(hv:BK w K vv v)(hn:n<=4000000000000000000)(h0:¬ k.length=0)(h1:¬ 64 < k.length)(h2:4096 < v.length) :
  Calls Tryz.prog 64 #[.pointer (some ⟨g,0,none⟩),kv,vv] w (Ends w K D g E W (n + 1) (N + 2) (.int .i64 61)):=by
 obtain⟨F,V,m,Q,jv,T,oj,hX,hE,hB⟩:=h.open;obtain⟨ao,c,rfl⟩:=hk.shape;obtain⟨bo,d,rfl⟩:=hv.shape;have u:=fY hX hn;have HX:=aB hX;have HE:=aB hE;have HB:=aB hB;generalize k.length=kn at *;generalize v.length=vn at *
 have g0:((kn:Int)=0)=False:=eq_false (by omega)
 have g1:((64:Int) < kn)=False:=eq_false (by omega)
 have g2:(4096:Int) < vn:=by omega
 clear hX hE hB h hk hv;go_enter Tryz.func64,Tryz.ntmps64;go_wp2_with (go_at_call 95; go_must (refine u.mono ?_); rintro e w1 ⟨rfl,X1,C1⟩);go_ret;exact⟨rfl,K,(X1.shut HE.out HB.out).more (by omega) |>.mono (fun _ _ h=>.inl h),fun b h=>.inl h,HX.out.kg C1⟩
theorem yg(hX:SX w K D F V g m Q jv [] oj n N)(hB:kB ([].reverse.map Jr.U) W Q.flatten)(hk:BK w K kv k)(hv:BK w K vv v)(hn:n<=4000000000000000000)(hN:N + 2<=100000000)(h0:¬ k.length=0)(h1:¬ 64 < k.length)(h2:¬ 4096 < v.length) :
  Calls Tryz.prog 64 #[.pointer (some ⟨g,0,none⟩),kv,vv] w (Ends w K D g (put Q.flatten k v) W (n + 1) (N + 2) (.int .i64 0)):=by
 obtain⟨ao,c,rfl⟩:=hk.shape;obtain⟨bo,d,rfl⟩:=hv.shape;have u:=fY hX hn;have HX:=aB hX;have HB:=aB hB;have HK:=aB hk;have HV:=aB hv;have hkl:=aB (show k.length<=64 by omega);have hvl:=aB (show v.length<=4096 by omega);replace hN:N<=99999998:=by omega
 have hN':=hN;replace hN:N<=100000000:=by omega
 have g0:((k.length:Int)=0)=False:=eq_false (by omega)
 have g1:((64:Int) < k.length)=False:=eq_false (by omega)
 have g2:¬ ((4096:Int) < v.length):=by omega
 clear hX hB hk hv;obtain⟨kn,hkn⟩:∃ kn,Hid (k.length=kn):=⟨_,rfl⟩
 obtain⟨vn,hvn⟩:∃ vn,Hid (v.length=vn):=⟨_,rfl⟩
 rw[hkn.out] at g0 g1 HK h0 h1 ⊢;rw[hvn.out] at g2 HV h2 ⊢;go_enter Tryz.func64,Tryz.ntmps64;go_wp2_with first
  | (go_at_call 95; go_must (refine u.mono ?_); rintro e w1 ⟨rfl,X1,C1⟩)
  | (go_at_call 96; go_must (refine(mw X1).mono ?_); rintro e y ⟨rfl,hy⟩; replace hy:=hy.symm; subst hy; have c0:=X1.blk.cell (i:=0) rfl; have us:=mset X1.map (HK.out _ (HX.out.kg C1)) (HV.out _ (HX.out.kg C1)) (by have:=hkl.out; omega) (by have:=hvl.out; omega) (by omega))
  | (go_at_call 97; go_must (refine us.mono ?_); rintro e w3 ⟨rfl,F',M',hF,hC⟩)
 go_ret;have X3:=X1.mapped (N':=N + 1) (by have:=X1.tot; have:=vi X1.map.ord.flat k v; rw[iF X1.map.ord]; omega) M' hF (fun _ h=>.inl h) hC;refine⟨rfl,_,((X3.shut (E:=put Q.flatten k v) (W:=W) (iF X1.map.ord k v) (rQ HB.out)).more (by omega)).mono (fun b _ hb => ?_),fun b hb => ?_,?_⟩
 ·rcases hb with hb | hb
  ·exact .inl hb
  ·exact .inr (by have:=C1.size; omega)
 ·rcases hb with⟨hb,_⟩ | hb
  ·exact .inl hb
  ·rcases hF b hb with h1 | h1
   ·exact .inl (X1.own.map b h1)
   ·exact .inr (by have:=C1.size; omega)
 ·exact fm (HX.out.kg C1) (hC.mono (fun b _ h=>X1.own.map b h))
theorem Ax(hX:SX w K D F V g m Q jv (T0 ++ [j]) oj n N)(hB:kB ((T0 ++ [j]).reverse.map Jr.U) W Q.flatten)(hk:BK w K kv k)(hv:BK w K vv v)(hn:n<=4000000000000000000)(hN:N + 2<=100000000)(h0:¬ k.length=0)(h1:¬ 64 < k.length)(h2:¬ 4096 < v.length) :
  Calls Tryz.prog 64 #[.pointer (some ⟨g,0,none⟩),kv,vv] w (Ends w K D g (put Q.flatten k v) W (n + 1) (N + 2) (.int .i64 0)):=by
 obtain⟨ao,c,rfl⟩:=hk.shape;obtain⟨bo,d,rfl⟩:=hv.shape;have u:=fY hX hn;have HX:=aB hX;have HB:=aB hB;have HK:=aB hk;have HV:=aB hv;have hkl:=aB (show k.length<=64 by omega);have hvl:=aB (show v.length<=4096 by omega);replace hN:N<=99999998:=by omega
 have hN':=hN;replace hN:N<=100000000:=by omega
 have g0:((k.length:Int)=0)=False:=eq_false (by omega)
 have g1:((64:Int) < k.length)=False:=eq_false (by omega)
 have g2:¬ ((4096:Int) < v.length):=by omega
 clear hX hB hk hv;obtain⟨kn,hkn⟩:∃ kn,Hid (k.length=kn):=⟨_,rfl⟩
 obtain⟨vn,hvn⟩:∃ vn,Hid (v.length=vn):=⟨_,rfl⟩
 rw[hkn.out] at g0 g1 HK h0 h1 ⊢;rw[hvn.out] at g2 HV h2 ⊢;go_enter Tryz.func64,Tryz.ntmps64;go_wp2_with first
  | (go_at_call 95; go_must (refine u.mono ?_); rintro e w1 ⟨rfl,X1,C1⟩)
  | (go_at_call 96; go_must (refine(oE X1 (HK.out _ (HX.out.kg C1)) (by have:=hkl.out; omega) hN).mono ?_); rintro e w2 ⟨rfl,K2,V2,j',hj',X2,hK2,C2⟩; have C3:=fm (HX.out.kg C1) C2; have c0:=X2.blk.cell (i:=0) rfl; have us:=mset X2.map (HK.out _ C3) (HV.out _ C3) (by have:=hkl.out; omega) (by have:=hvl.out; omega) (by omega))
  | (go_at_call 97; go_must (refine us.mono ?_); rintro e w3 ⟨rfl,F',M',hF,hC⟩)
 go_ret;have X3:=X2.mapped (N':=N + 1 + 1) (by have:=X2.tot; have:=vi X2.map.ord.flat k v; rw[iF X2.map.ord]; omega) M' hF (fun _ h=>.inl h) hC;refine⟨rfl,_,((X3.shut (E:=put Q.flatten k v) (W:=W) (iF X2.map.ord k v) (nW HB.out hj' (Aq HX.out.map.ord.flat k v))).more (by omega)).mono (fun b _ hb => ?_),fun b hb => ?_,?_⟩
 ·rcases hb with(hb | hb) | hb
  ·exact .inl hb
  ·exact .inr (by have:=C1.size; omega)
  ·exact .inr (by have:=C3.size; omega)
 ·rcases hb with⟨hb,_⟩ | hb
  ·exact(hK2 b hb).imp id (fun h=>by have:=C1.size; omega)
  ·rcases hF b hb with h1 | h1
   ·exact(hK2 b (X2.own.map b h1)).imp id (fun h=>by have:=C1.size; omega)
   ·exact .inr (by have:=C3.size; omega)
 ·exact C3.trans hC (fun b hb h=>(hK2 b (X2.own.map b h)).elim id (fun h=>by have:=C1.size; omega))
theorem sset(h:SA w K D g E W n N)(hk:BK w K kv k)(hv:BK w K vv v)(hn:n<=4000000000000000000)(hN:N + 2<=100000000) :
  Calls Tryz.prog 64 #[.pointer (some ⟨g,0,none⟩),kv,vv] w (Ends w K D g (if iY k v=0 then put E k v else E) W (n + 1) (N + 2) (.int .i64 (iY k v))):=by
 by_cases h0:k.length=0
 ·have e:iY k v=60:=by unfold iY; rw[if_pos (.inl h0)]
  rw[e,if_neg (by decide)]; exact wV h hk hv hn h0
 ·by_cases h1:64 < k.length
  ·have e:iY k v=60:=by unfold iY; rw[if_pos (.inr h1)]
   rw[e,if_neg (by decide)]; exact wM h hk hv hn h0 h1
  ·by_cases h2:4096 < v.length
   ·have e:iY k v=61:=by unfold iY; rw[if_neg (by omega),if_pos h2]
    rw[e,if_neg (by decide)]; exact yl h hk hv hn h0 h1 h2
   ·have e:iY k v=0:=by unfold iY; rw[if_neg (by omega),if_neg h2]
    rw[e,if_pos rfl];obtain⟨F,V,m,Q,jv,T,oj,hX,rfl,hB⟩:=h.open;rcases List.eq_nil_or_concat T with rfl | ⟨T0,j,rfl⟩
    ·exact yg hX hB hk hv hn hN h0 h1 h2
    ·rw[List.concat_eq_append] at hX hB;exact Ax hX hB hk hv hn hN h0 h1 h2
end
end Kv
end
end Go.Proofs.YthfepflplbahkaaGreatDoor
