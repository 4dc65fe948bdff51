/- Several texts, joined: KvT, PgMp, KvM, KvO, KvP, KvQ, KvD, KvR, KvS, KvU, KvV. -/
import Derived.Test.YthfepflplbahkaaGreatDoorJag
import Derived.Laws.LoneSync
set_option maxRecDepth 100000
set_option maxHeartbeats 8000000
namespace Go.Proofs.YthfepflplbahkaaGreatDoor
section
namespace Kv
open Pg
section
variable {k x v:List Int}{Q:List (List KV)}
abbrev aE:=List KV
def dP(E:aE):Prop:=E.Pairwise fun x y=>Lt x.1 y.1
def look(E:aE)(k:List Int):Option (List Int):=(E.find? (fun x=>decide (x.1=k))).map Prod.snd
def put(E:aE)(k v:List Int):aE:=E.filter (fun x=>decide (Lt x.1 k)) ++ (k,v) :: E.filter (fun x=>decide (Lt k x.1))
def rem(E:aE)(k:List Int):aE:=E.filter (fun x=>decide (¬ x.1=k))
theorem ff{α:Type}{p:α->Bool}{l:List α}(h:∀ x∈l,p x=true):l.filter p=l:=List.filter_eq_self.2 h
theorem jW{α:Type}{p:α->Bool}{l:List α}(h:∀ x∈l,p x=false):l.filter p=[]:=List.filter_eq_nil_iff.2 (fun x hx=>by rw[h x hx]; simp)
structure Cut(k:List Int)(X Y:aE):Prop where
 lo:∀ x∈X,Lt x.1 k
 hi:∀ y∈Y,Lt k y.1
theorem Cut.nx{X Y:aE}(h:Cut k X Y):∀ x∈X,¬ x.1=k:=fun x hx e=>by have:=h.lo x hx; rw[e] at this; exact lt_irrefl _ this
theorem Cut.ny{X Y:aE}(h:Cut k X Y):∀ x∈Y,¬ x.1=k:=fun x hx e=>by have:=h.hi x hx; rw[e] at this; exact lt_irrefl _ this
theorem G4{X:aE}(h:∀ x∈X,¬ x.1=k):look X k=none:=by
 unfold look;rw[List.find?_eq_none.2 (fun x hx=>by simp[h x hx])];rfl
theorem uj{X Y:aE}(h:∀ x∈X,¬ x.1=k):look (X ++ Y) k=look Y k:=by
 unfold look;rw[List.find?_append,List.find?_eq_none.2 (fun x hx=>by simp[h x hx])];simp
theorem Cut.vK{X Y:aE}(h:Cut k X Y):look (X ++ Y) k=none:=by rw[uj h.nx,G4 h.ny]
theorem Cut.qL{X Y:aE}(h:Cut k X Y):look (X ++ (k,x) :: Y) k=some x:=by
 rw[uj h.nx];simp[look]
theorem Cut.Bg{X Y:aE}(h:Cut k X Y):put (X ++ Y) k v=X ++ (k,v) :: Y:=by
 unfold put;rw[List.filter_append,List.filter_append,ff (l:=X) (fun x hx=>decide_eq_true (h.lo x hx)),jW (l:=Y) (fun x hx=>decide_eq_false (h.hi x hx).not),jW (l:=X) (fun x hx=>decide_eq_false (h.lo x hx).not),ff (l:=Y) (fun x hx=>decide_eq_true (h.hi x hx))];simp
theorem Cut.AN{X Y:aE}(h:Cut k X Y):put (X ++ (k,x) :: Y) k v=X ++ (k,v) :: Y:=by
 unfold put;rw[List.filter_append,List.filter_append,ff (l:=X) (fun x hx=>decide_eq_true (h.lo x hx)),jW (l:=X) (fun x hx=>decide_eq_false (h.lo x hx).not),List.filter_cons,List.filter_cons,jW (l:=Y) (fun x hx=>decide_eq_false (h.hi x hx).not),ff (l:=Y) (fun x hx=>decide_eq_true (h.hi x hx)),decide_eq_false (lt_irrefl k)];simp
theorem Cut.Ep{X Y:aE}(h:Cut k X Y):rem (X ++ Y) k=X ++ Y:=by
 unfold rem;rw[List.filter_append,ff (l:=X) (fun x hx=>decide_eq_true (h.nx x hx)),ff (l:=Y) (fun x hx=>decide_eq_true (h.ny x hx))]
theorem Cut.He{X Y:aE}(h:Cut k X Y):rem (X ++ (k,x) :: Y) k=X ++ Y:=by
 unfold rem;rw[List.filter_append,ff (l:=X) (fun x hx=>decide_eq_true (h.nx x hx)),List.filter_cons,ff (l:=Y) (fun x hx=>decide_eq_true (h.ny x hx))];simp
theorem sM{X Y:aE}(h:dP (X ++ (k,x) :: Y)):Cut k X Y:=by
 unfold dP at h;rw[List.pairwise_append,List.pairwise_cons] at h;exact⟨fun a ha=>h.2.2 a ha (k,x) List.mem_cons_self,fun b hb=>h.2.1.1 b hb⟩
theorem dP.cut{E:aE}(h:dP E)(k:List Int):∃ X Y,Cut k X Y/\((E=X ++ Y/\look E k=none)\/∃ x,E=X ++ (k,x) :: Y/\look E k=some x):=by
 induction E with
 | nil=>exact⟨[],[],⟨fun _ h=>by simp at h,fun _ h=>by simp at h⟩,.inl ⟨rfl,rfl⟩⟩
 | cons a E ih =>
  have b:=h;unfold dP at b;rw[List.pairwise_cons] at b;rcases rO a.1 k with f | he | d
  ·obtain⟨X,Y,c,r⟩:=ih b.2
   have hc:Cut k (a :: X) Y:=⟨fun x hx=>by
    rcases List.mem_cons.1 hx with rfl | hx
    ·exact f
    ·exact c.lo x hx,c.hi⟩
   refine⟨a :: X,Y,hc,?_⟩;rcases r with⟨e,_⟩ | ⟨x,e,_⟩
   ·subst e; exact .inl ⟨rfl,hc.vK⟩
   ·subst e; exact .inr ⟨x,rfl,hc.qL⟩
  ·have hc:Cut k [] E:=⟨fun _ h=>by simp at h,fun y hy=>by rw[<- he]; exact b.1 y hy⟩
   obtain⟨ak,g⟩:=a;simp only at he;subst he;exact⟨[],E,hc,.inr ⟨g,rfl,hc.qL⟩⟩
  ·have hc:Cut k [] (a :: E):=⟨fun _ h=>by simp at h,fun y hy=>by
    rcases List.mem_cons.1 hy with rfl | hy
    ·exact d
    ·exact d.trans (b.1 y hy)⟩
   exact⟨[],a :: E,hc,.inl ⟨rfl,hc.vK⟩⟩
theorem vE{X Y:aE}(h:dP (X ++ Y))(c:Cut k X Y):dP (X ++ (k,v) :: Y):=by
 unfold dP at h ⊢;rw[List.pairwise_append] at h;rw[List.pairwise_append,List.pairwise_cons];refine⟨h.1,⟨fun y hy=>c.hi y hy,h.2.1⟩,fun x hx y hy => ?_⟩;rcases List.mem_cons.1 hy with rfl | hy
 ·exact c.lo x hx
 ·exact h.2.2 x hx y hy
theorem Ez{X Y:aE}(h:dP (X ++ (k,v) :: Y)):dP (X ++ Y):=by
 unfold dP at h ⊢;rw[List.pairwise_append,List.pairwise_cons] at h;rw[List.pairwise_append];exact⟨h.1,h.2.1.2,fun x hx y hy=>h.2.2 x hx y (List.mem_cons_of_mem _ hy)⟩
theorem dP.put{E:aE}(h:dP E)(k v:List Int):dP (put E k v):=by
 obtain⟨X,Y,c,⟨rfl,_⟩ | ⟨x,rfl,_⟩⟩:=h.cut k
 ·rw[c.Bg]; exact vE h c
 ·rw[c.AN]; exact vE (Ez h) c
theorem dP.rem{E:aE}(h:dP E)(k:List Int):dP (rem E k):=List.Pairwise.filter _ h
abbrev Und:=List Int × Option (List Int)
def lG(E:aE)(u:Und):aE:=match u.2 with
 | none=>rem E u.1
 | some v=>put E u.1 v
theorem Cu{E:aE}(h:dP E)(k v:List Int):lG (put E k v) (k,look E k)=E:=by
 obtain⟨X,Y,c,⟨rfl,e⟩ | ⟨x,rfl,e⟩⟩:=h.cut k
 ·rw[e,c.Bg]; exact c.He
 ·rw[e,c.AN]; exact c.AN
theorem D7{E:aE}(h:dP E)(k:List Int):lG (rem E k) (k,look E k)=E:=by
 obtain⟨X,Y,c,⟨rfl,e⟩ | ⟨x,rfl,e⟩⟩:=h.cut k
 ·rw[e,c.Ep]; exact c.Ep
 ·rw[e,c.He]; exact c.Bg
theorem dP.lG{E:aE}(h:dP E)(u:Und):dP (lG E u):=by
 unfold Kv.lG;split
 ·exact h.rem _
 ·exact h.put _ _
def je(U:List Und)(E:aE):aE:=U.foldr (fun u E=>lG E u) E
theorem undos_nil(E:aE):je [] E=E:=rfl
theorem Ae(U V:List Und)(E:aE):je (U ++ V) E=je U (je V E):=by simp[je]
theorem wG(U:List Und)(u:Und)(E:aE):je (U ++ [u]) E=je U (lG E u):=by simp[je]
theorem dP.je{E:aE}(h:dP E)(U:List Und):dP (je U E):=by
 induction U with
 | nil=>exact h
 | cons u U ih=>exact ih.lG u
def iX:List (List Und)->List aE->aE->Prop
 | [],[],_=>True
 | U :: J,e :: W,E=>je U E=e/\iX J W e
 | _,_,_=>False
theorem iX.len:∀ {J:List (List Und)} {W:List aE} {E:aE},iX J W E->J.length=W.length
 | [],[],_,_=>rfl
 | _ :: _,_ :: _,_,h=>by simp[iX.len h.2]
 | [],_ :: _,_,h=>h.elim
 | _ :: _,[],_,h=>h.elim
theorem fC(h:gY Q)(k v:List Int):(qq Q k v).flatten=put Q.flatten k v:=by
 cases hh:iy Q k
 ·obtain⟨X,Y,e1,e2,b,a⟩:=h.j3 v hh;rw[e1,e2,Cut.Bg ⟨b,a⟩]
 ·obtain⟨X,x,Y,e1,e2⟩:=h.ym v hh;have c:=sM (by have:=h.flat; rw[e1] at this; exact this);rw[e1,e2,c.AN]
theorem l7(h:gY Q)(k:List Int):iy Q k=(look Q.flatten k).isSome:=by
 cases hh:iy Q k
 ·obtain⟨X,Y,e1,_,b,a⟩:=h.j3 [] hh;rw[e1,Cut.vK ⟨b,a⟩]; rfl
 ·obtain⟨X,x,Y,e1,_⟩:=h.ym [] hh;have c:=sM (by have:=h.flat; rw[e1] at this; exact this);rw[e1,c.qL]; rfl
theorem gG(h:gY Q)(k:List Int):(qu Q k).flatten=rem Q.flatten k:=by
 cases hh:iy Q k
 ·rw[Be hh];obtain⟨X,Y,e1,_,b,a⟩:=h.j3 [] hh;rw[e1,Cut.Ep ⟨b,a⟩]
 ·obtain⟨X,x,Y,e1,e2⟩:=h.FD hh;have c:=sM (by have:=h.flat; rw[e1] at this; exact this);rw[e1,e2,c.He]
theorem Ft(a:iy Q k=true):(k,Bm Q k)∈Q.flatten:=by
 unfold iy thr at a;simp only[Bool.and_eq_true,Bool.not_eq_true',decide_eq_true_eq] at a;obtain⟨_,b⟩:=a;unfold Bm;rw[List.getElem?_map] at b;obtain⟨x,hx,c⟩:=Option.map_eq_some_iff.1 b;rw[hx];simp only[Option.map_some,Option.getD_some];have hm:=List.mem_of_getElem? hx
 have d:x=(k,x.2):=by rw[<- c]
 rw[<- d];rw[List.getD_eq_getElem?_getD] at hm
 cases hq:Q[apl Q k]? with
 | none=>rw[hq] at hm; simp at hm
 | some p=>rw[hq] at hm; exact List.mem_flatten.2 ⟨p,List.mem_of_getElem? hq,hm⟩
theorem DS(h:gY Q)(k:List Int):(if iy Q k then Bm Q k else [])=(look Q.flatten k).getD []:=by
 cases hh:iy Q k
 ·have:=l7 h k;rw[hh] at this
  cases hl:look Q.flatten k with
  | none=>rfl
  | some x=>rw[hl] at this; cases this
 ·have hm:=Ft hh;obtain⟨X,Y,e⟩:=List.append_of_mem hm;have c:=sM (by have:=h.flat; rw[e] at this; exact this);rw[e,c.qL]; rfl
theorem iA{E:aE}(h:look E k=some x):(k,x)∈E:=by
 unfold look at h;obtain⟨a,c,rfl⟩:=Option.map_eq_some_iff.1 h;have d:=List.mem_of_find?_eq_some c;have b:=List.find?_some c;simp only[decide_eq_true_eq] at b;rw[<- b]; exact d
theorem put_mem{E:aE}{x:KV}(h:x∈put E k v):x∈E\/x=(k,v):=by
 unfold put at h;rcases List.mem_append.1 h with h | h
 ·exact .inl (List.mem_filter.1 h).1
 ·rcases List.mem_cons.1 h with h | h
  ·exact .inr h
  ·exact .inl (List.mem_filter.1 h).1
theorem lg{E:aE}(h:dP E)(k v:List Int):(put E k v).length<=E.length + 1:=by
 obtain⟨X,Y,c,⟨rfl,_⟩ | ⟨x,rfl,_⟩⟩:=h.cut k
 ·rw[c.Bg]; simp; omega
 ·rw[c.AN]; simp
theorem nZ{E:aE}(k:List Int):(rem E k).length<=E.length:=List.length_filter_le _ _
theorem Dq{E:aE}(h:dP E)(u:Und):(lG E u).length<=E.length + 1:=by
 unfold lG;split
 ·have:=nZ (E:=E) u.1; omega
 ·exact lg h _ _
theorem rem_mem{E:aE}{x:KV}(h:x∈rem E k):x∈E:=(List.mem_filter.1 h).1
end
end Kv
end
section
namespace Pg
open Go.RowKit Go.Lib
section
variable {L:List Pg}{N g b:Nat}{w w':World}{F D:Nat->Prop}{Q:List (List KV)}{P:List (List En)}{p:En->Prop}{kv:Value}{k:List Int}
structure Mp(w:World)(F D:Nat->Prop)(g:Nat)(Q:List (List KV))(N:Nat):Prop where
 ex:∃ L,abs (ens L)=Q/\bZ w F D g L/\Ord (ens L)/\Shq (ens L)/\(ens L).flatten.length<=N/\∀ es∈ens L,∀ e∈es,e.kl.length<=1000000000/\e.vl.length<=1000000000
theorem yJ:∀ {P:List (List En)},(∀ es∈P,1<=es.length)->P.length<=P.flatten.length
 | [],_=>Nat.le_refl _
 | a :: P,h=>by
  have h1:=h a List.mem_cons_self;have b:=yJ (P:=P) fun es he=>h es (List.mem_cons_of_mem _ he)
  simp only[List.flatten_cons,List.length_append,List.length_cons];omega
theorem Shq.few(h:Shq (ens L))(hN:(ens L).flatten.length<=N)(hb:N<=100000000):L.length<=100000000:=by
 have h1:=yJ fun es he=>(h.one es he).1
 have h2:(ens L).length=L.length:=by simp[ens]
 omega
theorem Mp.lt(M:Mp w F D g Q N)(hb:F b):b < w.heap.size:=by
 obtain⟨L,_,A,_⟩:=M.ex;exact A.lt hb
theorem Mp.noU(M:Mp w F D g Q N)(hb:F b)(cs:List Value):¬ Blk w b cs 5:=by
 obtain⟨L,_,A,_⟩:=M.ex;exact A.noU hb cs
theorem Mp.keep(M:Mp w F D g Q N)(hb:Below w.heap.size w w'):Mp w' F D g Q N:=by
 obtain⟨L,e,A,r⟩:=M.ex;exact⟨L,e,A.keep hb,r⟩
theorem Mp.drew(M:Mp w F D g Q N):Mp w.drew F D g Q N:=by
 obtain⟨L,e,A,r⟩:=M.ex;exact⟨L,e,A.drew,r⟩
theorem Mp.same(M:Mp w F D g Q N)(c:∀ b,F b->w'.heap[b]? = w.heap[b]?)(a:∀ b,b < w.heap.size->D b->(∃ cs,Blk w b cs 5)->w'.heap[b]? = w.heap[b]?):Mp w' F D g Q N:=by
 obtain⟨L,e,A,r⟩:=M.ex;exact⟨L,e,A.same c a,r⟩
theorem Mp.chg{F':Nat->Prop}(M:Mp w F D g Q N)(hc:Chg F' w w')(h1:∀ b,F' b->¬ F b)(h2:∀ b,F' b->∀ cs,¬ Blk w b cs 5):Mp w' F D g Q N:=by
 obtain⟨L,e,A,r⟩:=M.ex;exact⟨L,e,A.chg hc h1 h2,r⟩
theorem Mp.mono{D':Nat->Prop}(M:Mp w F D g Q N)(hD:∀ b,b < w.heap.size->D b->D' b):Mp w F D' g Q N:=by
 obtain⟨L,e,A,r⟩:=M.ex;exact⟨L,e,A.mono hD,r⟩
theorem Mp.more{N':Nat}(M:Mp w F D g Q N)(h:N<=N'):Mp w F D g Q N':=by
 obtain⟨L,e,A,O,S,n,r⟩:=M.ex;exact⟨L,e,A,O,S,by omega,r⟩
theorem Mp.ord(M:Mp w F D g Q N):gY Q:=by
 obtain⟨L,e,A,O,_⟩:=M.ex;exact⟨_,e,O⟩
theorem Mp.len(M:Mp w F D g Q N):Q.flatten.length<=N:=by
 obtain⟨L,rfl,A,O,S,n,r⟩:=M.ex;rw[dE,List.length_map];exact n
theorem Mp.small(M:Mp w F D g Q N):∀ x∈Q.flatten,x.1.length<=1000000000/\x.2.length<=1000000000:=by
 obtain⟨L,rfl,A,O,S,n,r⟩:=M.ex;intro x hx;rw[dE] at hx;obtain⟨e,he,rfl⟩:=List.mem_map.1 hx;obtain⟨es,b,a⟩:=List.mem_flatten.1 he;exact r es b e a
theorem oP:(∀ es∈P,∀ e∈es,p e)<->∀ e∈P.flatten,p e :=
 ⟨fun h e he=>by obtain⟨es,h1,h2⟩:=List.mem_flatten.1 he; exact h es h1 e h2,fun h es he e hee=>h e (List.mem_flatten.2 ⟨es,he,hee⟩)⟩
theorem mnew:Calls Tryz.prog 43 #[] w fun e w'=>e=.returned (.pointer (some ⟨w.heap.size,0,none⟩))/\Mp w' (· = w.heap.size) (fun _=>False) w.heap.size [] 0/\Below w.heap.size w w' :=
 Gf.mono fun e w' ⟨g,he,a,A,B⟩=>by
  subst a;exact⟨he,⟨[],rfl,A,⟨fun _ h=>by simp[ens] at h,List.Pairwise.nil⟩,Shq.nil,Nat.le_refl _,fun _ h=>by simp[ens] at h⟩,B⟩
theorem EX{vv:Value}{v:List Int}(M:Mp w F D g Q N)(i:By w kv k)(hv:By w vv v)(a:k.length<=1000000000)(c:v.length<=1000000000)(l:N<=100000000) :
  Calls Tryz.prog 97 #[.pointer (some ⟨g,0,none⟩),kv,vv] w fun e w'=>e=.returned (.bool (!iy Q k))/\∃ F',Mp w' F' (fun b=>D b\/w.heap.size<=b) g (qq Q k v) (N + 1)/\(∀ b,F' b->F b\/w.heap.size<=b)/\Chg F w w':=by
 obtain⟨L,rfl,A,O,S,n,r⟩:=M.ex;refine(EO A O (fun es he=>(S.one es he).2) (S.few n l) i hv a c).mono fun e w' ⟨he,F',f,nk,d,e1,j,hF,hc⟩ => ?_
 refine⟨by rw[ig]; exact he,F',⟨f,by rw[e1,oC],j,by rw[e1]; exact O.set _,by rw[e1]; exact S.set O _,?_,?_⟩,hF,hc⟩
 ·rw[e1,Gh O];split<;>omega
 ·rw[e1];rw[oP] at r ⊢;intro x hx
  cases hh:has (ens L) k
  ·obtain⟨X,Y,e2,e3,_⟩:=gw O (e:=⟨nk,k,d,v⟩) hh;rw[e3] at hx;rw[e2] at r;rcases List.mem_append.1 hx with h | h
   ·exact r x (List.mem_append_left _ h)
   ·rcases List.mem_cons.1 h with h | h
    ·subst h; exact⟨a,c⟩
    ·exact r x (List.mem_append_right _ h)
  ·obtain⟨X,y,Y,e2,hy,e3⟩:=gC O (e:=⟨nk,k,d,v⟩) hh;rw[e3] at hx;rw[e2] at r;rcases List.mem_append.1 hx with h | h
   ·exact r x (List.mem_append_left _ h)
   ·rcases List.mem_cons.1 h with h | h
    ·subst h; exact⟨by simp only; rw[hy]; exact a,c⟩
    ·exact r x (List.mem_append_right _ (List.mem_cons_of_mem _ h))
theorem mdel(M:Mp w F D g Q N)(c:By w kv k)(f:N<=100000000) :
  Calls Tryz.prog 122 #[.pointer (some ⟨g,0,none⟩),kv] w fun e w'=>e=.returned (.bool (iy Q k))/\∃ F',Mp w' F' D g (qu Q k) N/\(∀ b,F' b->F b\/w.heap.size<=b)/\Chg F w w':=by
 obtain⟨L,rfl,A,O,S,n,r⟩:=M.ex;refine(xG A O (fun es he=>(S.one es he).2) (S.few n f) c).mono fun e w' ⟨he,F',a,e1,d,hF,hc⟩ => ?_
 refine⟨by rw[ig]; exact he,F',⟨a,by rw[e1,rM],d,by rw[e1]; exact O.del _,by rw[e1]; exact S.del O _,?_,?_⟩,hF,hc⟩
 ·rw[e1]
  cases hh:has (ens L) k
  ·rw[oU hh]; exact n
  ·obtain⟨X,x,Y,e2,_,e3⟩:=lM O hh;rw[e2] at n;rw[e3];simp only[List.length_append,List.length_cons] at n ⊢;omega
 ·rw[e1];rw[oP] at r ⊢;intro x hx
  cases hh:has (ens L) k
  ·rw[oU hh] at hx; exact r x hx
  ·obtain⟨X,y,Y,e2,_,e3⟩:=lM O hh;rw[e3] at hx;rw[e2] at r;rcases List.mem_append.1 hx with h | h
   ·exact r x (List.mem_append_left _ h)
   ·exact r x (List.mem_append_right _ (List.mem_cons_of_mem _ h))
theorem mget(M:Mp w F D g Q N)(a:By w kv k)(b:N<=100000000) :
  Calls Tryz.prog 170 #[.pointer (some ⟨g,0,none⟩),kv] w fun e w'=>∃ v,e=.returned (.tuple #[v,.bool (iy Q k)])/\OB w' (w.heap.size <= ·) v (if iy Q k then Bm Q k else [])/\Below w.heap.size w w':=by
 obtain⟨L,rfl,A,O,S,n,r⟩:=M.ex;rw[ig,Gz];exact E4 A O (fun es he=>by have:=(S.one es he).2; omega) (S.few n b) a fun p c e he=>(r p.es (List.mem_map.2 ⟨p,c,rfl⟩) e he).2
theorem abs_ints(P:List (List En)):((abs P).map fun es=>(es.length:Int))=P.map fun es=>(es.length:Int):=by
 simp[abs,Function.comp_def]
end
end Pg
end
section
namespace Kv
open Go.RowKit Go.Lib Pg
section
variable {V D V' D' K:Nat->Prop}{w w':World}{v c jv:Value}{l:List Int}{g b n N:Nat}{cs cs':List Value}{oj:Option Nat}{E:aE}{W:List aE}
theorem KF:Kd Tryz.prog 270 1 1 8 .nilFunc:=⟨by kernel_rfl,by kernel_rfl,rfl,by simp[Value.cells,Value.oneCell'],by decide⟩
theorem KJ:Kd Tryz.prog 87 273 1 24 (.agg #[.slice none 0 0]):=⟨by kernel_rfl,by kernel_rfl,rfl,by simp[Value.cells,Value.oneCell'],by decide⟩
structure pz(w : World)(V D : Nat → Prop)(g : Nat)(u : Und)(c : Value) : Prop where
  short : u.1.length ≤ 1000000000 ∧ ∀ x, u.2 = some x → x.length ≤ 1000000000
  ex : ∃ s1 s2 kv, V s1 ∧ V s2 ∧ Blk w s1 [.pointer (some ⟨g, 0, none⟩)] 37 ∧ Blk w s2 [kv] 96 ∧ OB w D kv u.1 ∧
    ((u.2 = none ∧ c = .func (.func 191) #[] #[.pointer (some ⟨s1, 0, none⟩), .pointer (some ⟨s2, 0, none⟩)]) ∨
     ∃ s3 vv x, V s3 ∧ Blk w s3 [vv] 96 ∧ OB w D vv x ∧ u.2 = some x ∧ c = .func (.func 192) #[] #[.pointer (some ⟨s1, 0, none⟩), .pointer (some ⟨s2, 0, none⟩), .pointer (some ⟨s3, 0, none⟩)])
structure lT(V D:Nat->Prop)(w w':World):Prop where
 var:∀ b cs t,V b->Blk w b cs t->(t=37\/t=96)->w'.heap[b]? = w.heap[b]?
 byt:∀ b,b < w.heap.size->D b->(∃ cs,Blk w b cs 5)->w'.heap[b]? = w.heap[b]?
theorem lT.ob(h:lT V D w w')(O:OB w D v l):OB w' D v l :=
 ⟨O.oct,O.ex.imp id (by
  rintro⟨b,c,e,hd,hR⟩
  exact⟨b,c,e,hd,hR.same (h.byt b hR.lt hd hR.kind)⟩)⟩
theorem pz.stay{u:Und}(h:pz w V D g u c)(hs:lT V D w w'):pz w' V D g u c:=by
 obtain⟨s1,s2,kv,v1,v2,b1,b2,ok,r⟩:=h.ex;refine⟨h.short,s1,s2,kv,v1,v2,b1.same (hs.var _ _ _ v1 b1 (.inl rfl)),b2.same (hs.var _ _ _ v2 b2 (.inr rfl)),hs.ob ok,r.imp id ?_⟩;rintro⟨s3,vv,x,v3,b3,a,e⟩;exact⟨s3,vv,x,v3,b3.same (hs.var _ _ _ v3 b3 (.inr rfl)),hs.ob a,e⟩
theorem pz.mono{u:Und}(h:pz w V D g u c)(a:∀ b,V b->V' b)(d:∀ b,b < w.heap.size->D b->D' b):pz w V' D' g u c:=by
 obtain⟨s1,s2,kv,v1,v2,b1,b2,ok,r⟩:=h.ex;refine⟨h.short,s1,s2,kv,a _ v1,a _ v2,b1,b2,ok.mono d,r.imp id ?_⟩;rintro⟨s3,vv,x,v3,b3,f,e⟩;exact⟨s3,vv,x,a _ v3,b3,f.mono d,e⟩
theorem pz.one{u:Und}(h:pz w V D g u c):c.oneCell'=true:=by
 obtain⟨s1,s2,kv,v1,v2,b1,b2,ok,⟨_,rfl⟩ | ⟨s3,vv,x,v3,b3,ov,_,rfl⟩⟩:=h.ex<;>rfl
def gm(w:World)(V D:Nat->Prop)(g:Nat)(U:List Und)(cs:List Value):Prop:=cs.length=U.length/\∀ (i:Nat) u c,U[i]? = some u->cs[i]? = some c->pz w V D g u c
theorem gm.stay{U:List Und}(h:gm w V D g U cs)(hs:lT V D w w'):gm w' V D g U cs:=⟨h.1,fun i u c hu hc=>(h.2 i u c hu hc).stay hs⟩
theorem gm.mono{U:List Und}(h:gm w V D g U cs)(hV:∀ b,V b->V' b)(hD:∀ b,b < w.heap.size->D b->D' b):gm w V' D' g U cs:=⟨h.1,fun i u c hu hc=>(h.2 i u c hu hc).mono hV hD⟩
theorem gm.app{U a:List Und}(h:gm w V D g U cs)(b:gm w V D g a cs'):gm w V D g (U ++ a) (cs ++ cs'):=by
 refine⟨by rw[List.length_append,List.length_append,h.1,b.1],fun i u c hu hc => ?_⟩;by_cases hi:i < U.length
 ·rw[List.getElem?_append_left hi] at hu;rw[List.getElem?_append_left (by rw[h.1]; exact hi)] at hc;exact h.2 i u c hu hc
 ·rw[List.getElem?_append_right (by omega)] at hu;rw[List.getElem?_append_right (by rw[h.1]; omega),h.1] at hc;exact b.2 _ u c hu hc
theorem gm.one{U:List Und}(h:gm w V D g U cs):∀ c∈cs,c.oneCell'=true:=fun c hc=>by
 obtain⟨i,hi⟩:=List.getElem?_of_mem hc;have a:=(List.getElem?_eq_some_iff.1 hi).1;exact(h.2 i (U[i]'(by rw[<- h.1]; exact a)) c (List.getElem?_eq_getElem _) hi).one
theorem gm.nil(w:World)(V D:Nat->Prop)(g:Nat):gm w V D g [] []:=⟨rfl,fun i u c h _=>by simp at h⟩
structure Jr where
 U:List Und
 v:Value
 o:Option Nat
def JrA(w:World)(V D:Nat->Prop)(g:Nat)(j:Jr):Prop:=∃ cs,gm w V D g j.U cs/\((j.o=none/\j.v=.slice none 0 0/\j.U=[])\/∃ b c,j.o=some b/\j.v=.slice (some ⟨b,0,none⟩) j.U.length c/\Rw w 1 1 b j.U.length c cs)
theorem JrA.stay{j:Jr}(h:JrA w V D g j)(hs:lT V D w w')(a:∀ b,j.o=some b->w'.heap[b]? = w.heap[b]?):JrA w' V D g j:=by
 obtain⟨cs,hc,r⟩:=h;refine⟨cs,hc.stay hs,r.imp id ?_⟩;rintro⟨b,c,e1,e2,d⟩;exact⟨b,c,e1,e2,d.same (a b e1)⟩
theorem JrA.mono{j:Jr}(h:JrA w V D g j)(hV:∀ b,V b->V' b)(hD:∀ b,b < w.heap.size->D b->D' b):JrA w V' D' g j:=by
 obtain⟨cs,hc,r⟩:=h;exact⟨cs,hc.mono hV hD,r⟩
theorem JrA.kind{j:Jr}(h:JrA w V D g j)(hb:j.o=some b):∃ cs,Blk w b cs 1:=by
 obtain⟨cs,hc,⟨e,_⟩ | ⟨b',c,e,_,hR⟩⟩:=h
 ·rw[hb] at e; cases e
 ·rw[hb] at e; cases e; exact hR.kind
structure JnA(w:World)(V D:Nat->Prop)(g:Nat)(jv:Value)(T:List Jr)(oj:Option Nat):Prop where
 row:(oj=none/\jv=.slice none 0 0/\T=[])\/∃ b c,oj=some b/\jv=.slice (some ⟨b,0,none⟩) T.length c/\Rw w 273 1 b T.length c (T.map Jr.v)
 each:∀ j∈T,JrA w V D g j
 apart:(T.filterMap Jr.o).Nodup
theorem JnA.stay{T:List Jr}(h:JnA w V D g jv T oj)(hs:lT V D w w')(d:∀ b,oj=some b->w'.heap[b]? = w.heap[b]?)(hb:∀ j∈T,∀ b,j.o=some b->w'.heap[b]? = w.heap[b]?):JnA w' V D g jv T oj :=
 ⟨h.row.imp id (by rintro⟨b,c,e1,e2,e⟩; exact⟨b,c,e1,e2,e.same (d b e1)⟩),fun j a=>(h.each j a).stay hs (hb j a),h.apart⟩
theorem JnA.mono{T:List Jr}(h:JnA w V D g jv T oj)(hV:∀ b,V b->V' b)(hD:∀ b,b < w.heap.size->D b->D' b):JnA w V' D' g jv T oj :=
 ⟨h.row,fun j hj=>(h.each j hj).mono hV hD,h.apart⟩
theorem JnA.kind{T:List Jr}(h:JnA w V D g jv T oj)(hb:oj=some b):∃ cs,Blk w b cs 273:=by
 rcases h.row with⟨e,_⟩ | ⟨b',c,e,_,hR⟩
 ·rw[hb] at e; cases e
 ·rw[hb] at e; cases e; exact hR.kind
def tot(T:List Jr):Nat:=(T.map fun j=>j.U.length).sum
structure Own(w:World)(K F V:Nat->Prop)(g:Nat)(T:List Jr)(oj:Option Nat):Prop where
 top:K g
 map:∀ b,F b->K b
 var:∀ b,V b->K b
 jrn:∀ b,oj=some b->K b
 bck:∀ j∈T,∀ b,j.o=some b->K b
 kind:∀ b,K b->∃ cs t,Blk w b cs t/\t≠5
 lI:¬ F g
 lD:∀ b,V b->¬ F b
 oS:∀ b,oj=some b->¬ F b
 p5:∀ j∈T,∀ b,j.o=some b->¬ F b
 vk:∀ b,V b->∃ cs t,Blk w b cs t/\(t=37\/t=96)
structure SA(w:World)(K D:Nat->Prop)(g:Nat)(E:aE)(W:List aE)(n N:Nat):Prop where
 ex:∃ F V m Q jv T oj,Blk w g [.pointer (some ⟨m,0,none⟩),jv,.int .i64 n] 94/\Mp w F D m Q N/\Q.flatten=E/\JnA w V D g jv T oj/\iX (T.reverse.map Jr.U) W E/\tot T + E.length<=N/\T.length<=16/\Own w K F V g T oj
theorem SA.lt(h:SA w K D g E W n N)(hb:K b):b < w.heap.size:=by
 obtain⟨F,V,m,Q,jv,T,oj,_,_,_,_,_,_,_,O⟩:=h.ex;obtain⟨cs,t,h,_⟩:=O.kind b hb;exact h.lt
theorem SA.noU(h:SA w K D g E W n N)(hb:K b)(cs:List Value):¬ Blk w b cs 5:=fun k=>by
 obtain⟨F,V,m,Q,jv,T,oj,_,_,_,_,_,_,_,O⟩:=h.ex;obtain⟨cs',t,hk,ht⟩:=O.kind b hb;exact ht (hk.eq k).2
theorem SA.top(h:SA w K D g E W n N):K g:=by
 obtain⟨F,V,m,Q,jv,T,oj,_,_,_,_,_,_,_,O⟩:=h.ex;exact O.top
theorem Own.same{F:Nat->Prop}{T:List Jr}(O:Own w K F V g T oj)(d:∀ b,K b->w'.heap[b]? = w.heap[b]?):Own w' K F V g T oj :=
 ⟨O.top,O.map,O.var,O.jrn,O.bck,fun b hb=>by
  obtain⟨cs,t,c,a⟩:=O.kind b hb;exact⟨cs,t,c.same (d b hb),a⟩,O.lI,O.lD,O.oS,O.p5,fun b hv=>by
  obtain⟨cs,t,c,a⟩:=O.vk b hv
  exact⟨cs,t,c.same (d b (O.var b hv)),a⟩⟩
theorem SA.same(h:SA w K D g E W n N)(a:∀ b,K b->w'.heap[b]? = w.heap[b]?)(d:∀ b,b < w.heap.size->D b->(∃ cs,Blk w b cs 5)->w'.heap[b]? = w.heap[b]?):SA w' K D g E W n N:=by
 obtain⟨F,V,m,Q,p,T,f,hb,hm,he,o,i,l,k,O⟩:=h.ex
 have hs:lT V D w w':=⟨fun b _ _ hv _ _=>a b (O.var b hv),d⟩
 exact⟨F,V,m,Q,p,T,f,hb.same (a g O.top),hm.same (fun b hF=>a b (O.map b hF)) d,he,o.stay hs (fun b e=>a b (O.jrn b e)) (fun j c b e=>a b (O.bck j c b e)),i,l,k,O.same a⟩
theorem SA.keep(h:SA w K D g E W n N)(hb:Below w.heap.size w w'):SA w' K D g E W n N:=h.same (fun b hK=>hb.block b (h.lt hK)) (fun b hl _ _=>hb.block b hl)
theorem SA.drew(h:SA w K D g E W n N):SA w.drew K D g E W n N:=h.same (fun _ _=>rfl) (fun _ _ _ _=>rfl)
theorem SA.chg{a:Nat->Prop}(h:SA w K D g E W n N)(hc:Chg a w w')(j:∀ b,a b->¬ K b)(d:∀ b,a b->∀ cs,¬ Blk w b cs 5):SA w' K D g E W n N :=
 h.same (fun b c=>hc.same b (h.lt c) fun f=>j b f c) (fun b i _ e=>hc.same b i fun f=>by obtain⟨cs,k⟩:=e; exact d b f cs k)
theorem SA.mono(h:SA w K D g E W n N)(a:∀ b,b < w.heap.size->D b->D' b):SA w K D' g E W n N:=by
 obtain⟨F,V,m,Q,d,T,c,hb,hm,he,j,e,i,f,O⟩:=h.ex;exact⟨F,V,m,Q,d,T,c,hb,hm.mono a,he,j.mono (fun _ h=>h) a,e,i,f,O⟩
theorem SA.more{N':Nat}(h:SA w K D g E W n N)(a:N<=N'):SA w K D g E W n N':=by
 obtain⟨F,V,m,Q,c,T,b,hb,hm,he,i,d,f,e,O⟩:=h.ex;exact⟨F,V,m,Q,c,T,b,hb,hm.more a,he,i,d,Nat.le_trans f a,e,O⟩
theorem SA.gy(h:SA w K D g E W n N):dP E:=by
 obtain⟨F,V,m,Q,jv,T,oj,hb,hm,rfl,_⟩:=h.ex;exact hm.ord.flat
theorem SA.size(h:SA w K D g E W n N):E.length<=N:=by
 obtain⟨F,V,m,Q,jv,T,oj,hb,hm,rfl,_⟩:=h.ex;exact hm.len
theorem SA.small(h:SA w K D g E W n N):∀ x∈E,x.1.length<=1000000000/\x.2.length<=1000000000:=by
 obtain⟨F,V,m,Q,jv,T,oj,hb,hm,rfl,_⟩:=h.ex;exact hm.small
theorem SA.depth(h:SA w K D g E W n N):W.length<=16:=by
 obtain⟨F,V,m,Q,jv,T,oj,hb,hm,he,hj,hk,ht,hl,O⟩:=h.ex;have:=hk.len;simp at this;omega
end
end Kv
end
section
namespace Kv
open Go.RowKit Go.Lib Pg
section
variable {w w':World}{K D F V:Nat->Prop}{g n N m:Nat}{E:aE}{W:List aE}{Q:List (List KV)}{jv kv:Value}{T:List Jr}{oj:Option Nat}{x:Int}{cs:List Value}{ao:Option Addr}{k:List Int}
attribute [local go_sem] Oper.semAt_some
structure SX(w:World)(K D F V:Nat->Prop)(g m:Nat)(Q:List (List KV))(jv:Value)(T:List Jr)(oj:Option Nat)(n N:Nat):Prop where
 blk:Blk w g [.pointer (some ⟨m,0,none⟩),jv,.int .i64 n] 94
 map:Mp w F D m Q N
 jn:JnA w V D g jv T oj
 tot:tot T + Q.flatten.length<=N
 len:T.length<=16
 own:Own w K F V g T oj
theorem SA.open(h:SA w K D g E W n N):∃ F V m Q jv T oj,SX w K D F V g m Q jv T oj n N/\Q.flatten=E/\iX (T.reverse.map Jr.U) W E:=by
 obtain⟨F,V,m,Q,jv,T,oj,hb,hm,he,d,a,c,b,O⟩:=h.ex;exact⟨F,V,m,Q,jv,T,oj,⟨hb,hm,d,by rw[he]; exact c,b,O⟩,he,a⟩
theorem SX.shut(h:SX w K D F V g m Q jv T oj n N)(he:Q.flatten=E)(a:iX (T.reverse.map Jr.U) W E):SA w K D g E W n N :=
 ⟨F,V,m,Q,jv,T,oj,h.blk,h.map,he,h.jn,a,by have:=h.tot; rw[he] at this; exact this,h.len,h.own⟩
theorem oh{x:Nat}{t:TypeId}(hx:Blk w x cs t)(j:t≠37)(d:t≠96)(i:t≠5)(hc:Chg (· = x) w w'):lT V D w w' :=
 ⟨fun b c l _ hb h=>hc.same b hb.lt (fun e=>by
  have a:b=x:=e;subst a;have:=(hx.eq hb).2;subst this;exact h.elim j d),fun b g _ f=>hc.same b g (fun e=>by
  have a:b=x:=e;subst a;obtain⟨c,k⟩:=f
  exact i (hx.eq k).2)⟩
theorem Own.chg1{x:Nat}(O:Own w K F V g T oj)(hs:lT V D w w')(hc:Chg (· = x) w w'){t:TypeId}(hx:Blk w' x cs t)(c:t≠5):Own w' K F V g T oj :=
 ⟨O.top,O.map,O.var,O.jrn,O.bck,fun b hb=>by
  by_cases e:b=x
  ·subst e; exact⟨cs,t,hx,c⟩
  ·obtain⟨d,h,a,f⟩:=O.kind b hb;exact⟨d,h,a.chg hc e,f⟩,O.lI,O.lD,O.oS,O.p5,fun b hv=>by
  obtain⟨cs,t,a,c⟩:=O.vk b hv
  exact⟨cs,t,a.same (hs.var b cs t hv a c),c⟩⟩
theorem SX.top{d:Nat}(h:SX w K D F V g m Q jv T oj n N)(hc:Chg (· = g) w w')(hb:Blk w' g [.pointer (some ⟨m,0,none⟩),jv,.int .i64 d] 94):SX w' K D F V g m Q jv T oj d N :=
 ⟨hb,h.map.chg hc (fun b e hF=>h.own.lI (by have c:b=g:=e; exact c▸hF)) (fun b e cs k=>by
   have c:b=g:=e;subst c
   exact absurd (h.blk.eq k).2 (by decide)),h.jn.stay (oh h.blk (by decide) (by decide) (by decide) hc)
   (fun b e=>by
    obtain⟨cs,k⟩:=h.jn.kind e
    exact hc.same b k.lt (fun c=>by
     have a:b=g:=c;subst a
     exact absurd (h.blk.eq k).2 (by decide)))
   (fun j f b e=>by
    obtain⟨cs,k⟩:=(h.jn.each j f).kind e
    exact hc.same b k.lt (fun c=>by
     have a:b=g:=c;subst a
     exact absurd (h.blk.eq k).2 (by decide))),h.tot,h.len,h.own.chg1 (oh (D:=D) h.blk (by decide) (by decide) (by decide) hc) hc hb (by decide)⟩
theorem SX.keep(h:SX w K D F V g m Q jv T oj n N)(hb:Below w.heap.size w w'):SX w' K D F V g m Q jv T oj n N:=by
 have a:∀ b,K b->w'.heap[b]? = w.heap[b]? := fun b f=>by
  obtain⟨cs,t,k,_⟩:=h.own.kind b f;exact hb.block b k.lt
 exact⟨h.blk.keep hb,h.map.keep hb,h.jn.stay ⟨fun b _ _ _ k _=>hb.block b k.lt,fun b c _ _=>hb.block b c⟩ (fun b e=>a b (h.own.jrn b e)) (fun j d b e=>a b (h.own.bck j d b e)),h.tot,h.len,h.own.same a⟩
theorem SX.drew(h:SX w K D F V g m Q jv T oj n N):SX w.drew K D F V g m Q jv T oj n N:=h.keep ⟨rfl,rfl,rfl,Nat.le_refl _,fun _ _=>rfl⟩
theorem Mp.fit{N':Nat}(M:Mp w F D g Q N)(h:Q.flatten.length<=N'):Mp w F D g Q N':=by
 obtain⟨L,e,A,O,S,n,r⟩:=M.ex;exact⟨L,e,A,O,S,by rw[<- e,dE,List.length_map] at h; exact h,r⟩
theorem xo{a:Addr}(hc:w.cell? a=some (.int .i64 x))(b:w.frozen? a=false)(c:0<=x)(d:x<=4000000000000000000) :
  (callFunc 190 #[.pointer (some a),.int .i64 1]).run Tryz.prog w=.ok (.value (.int .i64 (x + 1))) (w.setCell a (.int .i64 (x + 1))) :=
 run_call_add Tryz.func190 (by kernel_rfl) (by kernel_rfl) (by kernel_rfl) .i64 (by kernel_rfl) hc b (by
  have e:IntKind.i64.wrap (x + 1)=x + 1:=by rw[IntKind.wrap_i64]; omega
  simp[Op.intArith,e])
theorem Ge(hc:w.cell? ⟨g,2,none⟩=some (.int .i64 x))(hz:w.frozen? ⟨g,2,none⟩=false)(h0:0<=x)(h1:x<=4000000000000000000) :
  Calls Tryz.prog 142 #[.pointer (some ⟨g,2,none⟩),.int .i64 1] w fun e w'=>e=.returned (.int .i64 (x + 1))/\w'=w.setCell ⟨g,2,none⟩ (.int .i64 (x + 1)):=by
 have hr:=xo hc hz h0 h1;go_enter Tryz.func142,Tryz.ntmps142;go_wp2_with (simp only[hr]);go_ret;exact⟨rfl,rfl⟩
theorem iF(hc:w.cell? ⟨g,2,none⟩=some (.int .i64 x))(hz:w.frozen? ⟨g,2,none⟩=false)(h0:0<=x)(h1:x<=4000000000000000000) :
  Calls Tryz.prog 95 #[.pointer (some ⟨g,0,none⟩)] w fun e w'=>e=.returned (.tuple #[])/\w'=w.setCell ⟨g,2,none⟩ (.int .i64 (x + 1)):=by
 have u:=Ge hc hz h0 h1;clear hc hz;go_enter Tryz.func95,Tryz.ntmps95;go_wp2_with (go_at_call 142; refine u.mono ?_; rintro e w1 ⟨rfl,rfl⟩);go_end0;exact⟨rfl,rfl⟩
theorem iq(h:SX w K D F V g m Q jv T oj n N)(hn:n<=4000000000000000000) :
  Calls Tryz.prog 95 #[.pointer (some ⟨g,0,none⟩)] w fun e w'=>e=.returned (.tuple #[])/\SX w' K D F V g m Q jv T oj (n + 1) N/\Chg (· = g) w w':=by
 refine(iF (h.blk.cell (i:=2) rfl) (h.blk.free 2) (by omega) (by omega)).mono ?_
 rintro e w' ⟨rfl,rfl⟩
 have hc:Chg (· = g) w (w.setCell ⟨g,2,none⟩ (.int .i64 ((n:Int) + 1))):=(Chg.refl (· = g) w).cell (.inl rfl) _;refine⟨rfl,h.top hc ?_,hc⟩;have:=h.blk.setCell (i:=2) (.int .i64 ((n:Int) + 1));exact this
theorem qz{c:Nat}{mv nv:Value}(h:Blk w g [mv,.slice ao n c,nv] 94) :
  Calls Tryz.prog 143 #[.pointer (some ⟨g,0,none⟩)] w fun e w'=>e=.returned (.int .i64 n)/\w'=w:=by
 have c1:=h.cell (i:=1) rfl;clear h;go_enter Tryz.func143,Tryz.ntmps143;go_wp2;go_ret;exact⟨rfl,rfl⟩
theorem JnA.shape(h:JnA w V D g jv T oj):∃ ao c,jv=.slice ao T.length c:=by
 rcases h.row with⟨_,e,rfl⟩ | ⟨b,c,_,e,_⟩
 ·exact⟨none,0,e⟩
 ·exact⟨_,c,e⟩
theorem r6(h:SX w K D F V g m Q jv T oj n N) :
  Calls Tryz.prog 143 #[.pointer (some ⟨g,0,none⟩)] w fun e w'=>e=.returned (.int .i64 T.length)/\w'=w:=by
 obtain⟨a,c,e⟩:=h.jn.shape;have hb:=h.blk;rw[e] at hb;exact qz hb
theorem snew:Calls Tryz.prog 16 #[] w fun e w'=>∃ g K,e=.returned (.pointer (some ⟨g,0,none⟩))/\SA w' K (fun _=>False) g [] [] 0 0/\(∀ b,K b->w.heap.size<=b)/\Below w.heap.size w w':=by
 have u:=mnew (w:=w);go_enter Tryz.func16,Tryz.ntmps16;go_wp2_with (go_at_call 43; refine u.mono ?_; rintro e w1 ⟨rfl,M,B⟩);go_ret;have aa:=M.lt (b:=w.heap.size) rfl;have al:=ae w1 (.cells #[.pointer (some ⟨w.heap.size,0,none⟩),.slice none 0 0,.int .i64 0] 94);have bl:=aC w1 [.pointer (some ⟨w.heap.size,0,none⟩),.slice none 0 0,.int .i64 0] 94;have M2:=M.keep al;refine⟨w1.heap.size,fun b=>b=w.heap.size\/b=w1.heap.size,rfl,⟨_,fun _=>False,_,_,_,[],none,bl,M2,rfl,⟨.inl ⟨rfl,rfl,rfl⟩,fun _ h=>by simp at h,List.nodup_nil⟩,trivial,by decide,by decide,?_⟩,fun b hb=>by have:=B.size; omega,ai B al⟩;refine⟨.inr rfl,fun b hb=>.inl hb,fun _ h=>h.elim,(fun _ h=>by cases h),(fun _ h=>by simp at h),fun b hb => ?_,(fun h=>by have h':w1.heap.size=w.heap.size:=h; omega),fun _ h=>h.elim,(fun _ h=>by cases h),(fun _ h=>by simp at h),fun _ h=>h.elim⟩;rcases hb with rfl | rfl
 ·obtain⟨L,_,A,_⟩:=M2.ex;exact A.kind _ rfl
 ·exact⟨_,_,bl,by decide⟩
theorem lh(h:SX w K D F V g m Q jv T oj n N)(b:By w kv k)(a:N<=100000000) :
  Calls Tryz.prog 170 #[.pointer (some ⟨m,0,none⟩),kv] w fun e w'=>∃ v,e=.returned (.tuple #[v,.bool (look Q.flatten k).isSome])/\OB w' (w.heap.size <= ·) v ((look Q.flatten k).getD [])/\Below w.heap.size w w':=by
 have u:=mget h.map b a;rw[DS h.map.ord,l7 h.map.ord] at u;exact u
theorem vV(h:SX w K D F V g m Q jv T oj n N)(hk:By w kv k)(hN:N<=100000000) :
  Calls Tryz.prog 121 #[.pointer (some ⟨g,0,none⟩),kv] w fun e w'=>e=.returned (.bool (look Q.flatten k).isSome)/\Below w.heap.size w w':=by
 have c0:=h.blk.cell (i:=0) rfl;have u:=lh h hk hN;obtain⟨ao,c,rfl,-⟩:=id hk.ex;generalize (look Q.flatten k).isSome=r at *;generalize (look Q.flatten k).getD []=L at *;clear h hk;go_enter Tryz.func121,Tryz.ntmps121;go_wp2_with (go_at_call 170; refine u.mono ?_; rintro e w1 ⟨v,rfl,O,B⟩; obtain⟨a1,c1,rfl,-⟩:=id O.by.ex);go_ret;exact⟨rfl,B⟩
end
end Kv
end
section
namespace Kv
open Go.RowKit Go.Lib Pg
section
variable {w w':World}{K D F V D':Nat->Prop}{g m n N o s1 s2:Nat}{Q Q':List (List KV)}{jv v c u kv:Value}{T:List Jr}{oj:Option Nat}{ao:Option Addr}{k:List Int}
attribute [local go_sem] Oper.semAt_some
theorem aB{p:Prop}(h:p):Hid p:=h
theorem SX.vars{S:Nat->Prop}(h:SX w K D F V g m Q jv T oj n N)(f:∀ b,S b->¬ F b)(a:∀ b,S b->∃ cs t,Blk w b cs t/\(t=37\/t=96))(c:∀ b,b < w.heap.size->D b->D' b) :
  SX w (fun b=>K b\/S b) D' F (fun b=>V b\/S b) g m Q jv T oj n N :=
 ⟨h.blk,h.map.mono c,h.jn.mono (fun _=>.inl) c,h.tot,h.len,.inl h.own.top,fun b hb=>.inl (h.own.map b hb),fun b hb=>hb.imp (h.own.var b) id,fun b hb=>.inl (h.own.jrn b hb),fun j d b hb=>.inl (h.own.bck j d b hb),fun b hb=>hb.elim (h.own.kind b) (fun hs=>by
  obtain⟨cs,t,k,e⟩:=a b hs
  exact⟨cs,t,k,by rcases e with e | e<;>subst e<;>decide⟩),h.own.lI,fun b hb=>hb.elim (h.own.lD b) (f b),h.own.oS,h.own.p5,fun b hb=>hb.elim (h.own.vk b) (a b)⟩
theorem SX.mapped{F':Nat->Prop}{N':Nat}(h:SX w K D F V g m Q jv T oj n N)(q:Kv.tot T + Q'.flatten.length<=N')(l:Mp w' F' D' m Q' N')(hF:∀ b,F' b->F b\/w.heap.size<=b)(r:∀ b,D b->D' b)(hc:Chg F w w') :
  SX w' (fun b=>(K b/\¬ F b)\/F' b) D' F' V g m Q' jv T oj n N':=by
 have d:∀ b,K b->b < w.heap.size:=fun b hb=>by obtain⟨cs,t,k,_⟩:=h.own.kind b hb; exact k.lt
 have no:∀ b,K b->¬ F b->¬ F' b:=fun b hb hn hf=>by
  rcases hF b hf with o | o
  ·exact hn o
  ·have:=d b hb; omega
 have hs:lT V D w w':=⟨fun b _ _ hv k _=>hc.same b k.lt (h.own.lD b hv),fun b p _ k=>hc.same b p (fun f=>by obtain⟨cs,k⟩:=k; exact h.map.noU f cs k)⟩
 have a:JnA w' V D g jv T oj:=h.jn.stay hs (fun b e=>hc.same b (d b (h.own.jrn b e)) (h.own.oS b e)) (fun j a b e=>hc.same b (d b (h.own.bck j a b e)) (h.own.p5 j a b e))
 refine⟨h.blk.chg hc h.own.lI,l,a.mono (fun _ h=>h) (fun b _=>r b),q,h.len,.inl ⟨h.own.top,h.own.lI⟩,fun b=>.inr,fun b hb=>.inl ⟨h.own.var b hb,h.own.lD b hb⟩,fun b hb=>.inl ⟨h.own.jrn b hb,h.own.oS b hb⟩,fun j a b hb=>.inl ⟨h.own.bck j a b hb,h.own.p5 j a b hb⟩,fun b hb => ?_,no g h.own.top h.own.lI,fun b hb=>no b (h.own.var b hb) (h.own.lD b hb),fun b hb=>no b (h.own.jrn b hb) (h.own.oS b hb),fun j a b hb=>no b (h.own.bck j a b hb) (h.own.p5 j a b hb),fun b hv=>by
  obtain⟨cs,t,k,c⟩:=h.own.vk b hv
  exact⟨cs,t,k.same (hs.var b cs t hv k c),c⟩⟩
 have i:∀ b,F' b->∃ cs t,Blk w' b cs t/\t≠5:=fun b hf=>by
  obtain⟨L,_,A,_⟩:=l.ex;exact A.kind b hf
 rcases hb with⟨hb,hf⟩ | hb
 ·obtain⟨cs,t,k,c⟩:=h.own.kind b hb;exact⟨cs,t,k.chg hc hf,c⟩
 ·exact i b hb
theorem yu(c:w.cell? ⟨g,o,none⟩=some v):(loadVar 37 ⟨g,o,none⟩).run Tryz.prog w=.ok v w:=by go_simp
theorem rj(c:w.cell? ⟨g,o,none⟩=some v):(loadVar 86 ⟨g,o,none⟩).run Tryz.prog w=.ok v w:=by go_simp
theorem uu(c:w.cell? ⟨g,o,none⟩=some v):(loadVar 96 ⟨g,o,none⟩).run Tryz.prog w=.ok v w:=by go_simp
theorem oD{a:Act}{o:Oper}(k q:Nat){c:Nat}(ho:o.op=.store 96 (.tmp k) (.tmp q))(hp:a.eval (.tmp k)=.pointer (some ⟨g,0,none⟩))(hq:a.eval (.tmp q)=.slice ao n c)(hc:w.cell? ⟨g,0,none⟩=some u)(hf:w.frozen? ⟨g,0,none⟩=false) :
  (execOp a.eval o).run Tryz.prog w=.ok .skip (w.setCell ⟨g,0,none⟩ (.slice ao n c)):=by
 simp only[execOp,ho,hp,hq];go_simp
def Rds(g m s1 s2:Nat)(jv:Value)(n:Int)(kv:Value)(w:World):Prop:=Blk w s1 [.pointer (some ⟨g,0,none⟩)] 37/\Blk w g [.pointer (some ⟨m,0,none⟩),jv,.int .i64 n] 94/\Blk w s2 [kv] 96
theorem Rds.keep{n:Int}(h:Rds g m s1 s2 jv n kv w)(hb:Below w.heap.size w w'):Rds g m s1 s2 jv n kv w':=⟨h.1.keep hb,h.2.1.keep hb,h.2.2.keep hb⟩
theorem Dx(h:SX w K D F V g m Q jv T oj n N)(b1:Blk w s1 [.pointer (some ⟨g,0,none⟩)] 37)(b2:Blk w s2 [kv] 96)(n1:¬ F s1)(n2:¬ F s2)(hk:By w kv k)(hN:N<=100000000) :
  Calls Tryz.prog 191 #[.pointer (some ⟨s1,0,none⟩),.pointer (some ⟨s2,0,none⟩)] w fun e w'=>e=.returned (.tuple #[])/\∃ F',SX w' (fun b=>(K b/\¬ F b)\/F' b) D F' V g m (qu Q k) jv T oj n N/\(∀ b,F' b->F b\/w.heap.size<=b)/\Chg F w w':=by
 have u:=mdel h.map.drew hk.drew hN
 have hS:Rds g m s1 s2 jv n kv w.drew:=⟨b1.drew,h.blk.drew,b2.drew⟩
 have HX:=aB h;clear h b1 b2 hk;go_enter Tryz.func191,Tryz.ntmps191;refine bH (S:=Rds g m s1 s2 jv n kv) (by kernel_rfl) hS ?_
 refine aL 0 (some 2) (.pointer (some ⟨g,0,none⟩)) 37 0 s1 0 (by kernel_rfl) (by kernel_rfl) (by kernel_rfl) (fun w' h=>yu (h.1.cell (i:=0) rfl)) (fun _ _ _ h=>h) hS ?_
 refine aj 1 (some 3) (.pointer (some ⟨g,0,none⟩)) (by kernel_rfl) (fun _ _=>by kernel_rfl) (fun _ _ _ h=>h) hS ?_
 refine aj 2 (some 4) (.pointer (some ⟨g,0,none⟩)) (by kernel_rfl) (fun _ _=>by kernel_rfl) (fun _ _ _ h=>h) hS ?_
 refine aL 3 (some 5) (.pointer (some ⟨m,0,none⟩)) 86 4 g 0 (by kernel_rfl) (by kernel_rfl) (by kernel_rfl) (fun w' h=>rj (h.2.1.cell (i:=0) rfl)) (fun _ _ _ h=>h) hS ?_
 refine aL 4 (some 6) kv 96 1 s2 0 (by kernel_rfl) (by kernel_rfl) (by kernel_rfl) (fun w' h=>uu (h.2.2.cell (i:=0) rfl)) (fun _ _ _ h=>h) hS ?_
 refine aU 5 (some 7) 122 #[.pointer (some ⟨m,0,none⟩),kv] (by kernel_rfl) (by kernel_rfl) u ?_
 rintro e' w1 ⟨rfl,F',M',hF,hC⟩;refine⟨_,rfl,⟨hS.1.chg hC n1,hS.2.1.chg hC HX.out.own.lI,hS.2.2.chg hC n2⟩,?_⟩;refine bj (by kernel_rfl) ?_
 simp only[Act.put,List.setIfInBounds_toArray,List.set_cons_zero,List.set_cons_succ];go_end0
 have aa:Chg F w w1:=⟨hC.os,hC.tape,hC.output,hC.size,hC.same⟩
 exact⟨rfl,F',HX.out.mapped (by have:=HX.out.tot; have:=nZ (E:=Q.flatten) k; rw[gG HX.out.map.ord]; omega) M' hF (fun _ h=>h) aa,hF,aa⟩
theorem BU{s3:Nat}{vv:Value}{v:List Int}(h:SX w K D F V g m Q jv T oj n N)(b1:Blk w s1 [.pointer (some ⟨g,0,none⟩)] 37)(b2:Blk w s2 [kv] 96)(b3:Blk w s3 [vv] 96)(n1:¬ F s1)(n2:¬ F s2)(n3:¬ F s3)(hk:By w kv k)(hv:By w vv v)(hkl:k.length<=1000000000)(hvl:v.length<=1000000000)(hN:N<=100000000) :
  Calls Tryz.prog 192 #[.pointer (some ⟨s1,0,none⟩),.pointer (some ⟨s2,0,none⟩),.pointer (some ⟨s3,0,none⟩)] w fun e w'=>e=.returned (.tuple #[])/\∃ F',SX w' (fun b=>(K b/\¬ F b)\/F' b) (fun b=>D b\/w.heap.size<=b) F' V g m (qq Q k v) jv T oj n (N + 1)/\(∀ b,F' b->F b\/w.heap.size<=b)/\Chg F w w':=by
 have u:=EX h.map.drew hk.drew hv.drew hkl hvl hN
 have hS:Rds g m s1 s2 jv n kv w.drew/\Blk w.drew s3 [vv] 96:=⟨⟨b1.drew,h.blk.drew,b2.drew⟩,b3.drew⟩
 have HX:=aB h;clear h b1 b2 b3 hk hv;go_enter Tryz.func192,Tryz.ntmps192;refine bH (S:=fun w'=>Rds g m s1 s2 jv n kv w'/\Blk w' s3 [vv] 96) (by kernel_rfl) hS ?_
 refine aL 0 (some 3) (.pointer (some ⟨g,0,none⟩)) 37 0 s1 0 (by kernel_rfl) (by kernel_rfl) (by kernel_rfl) (fun w' h=>yu (h.1.1.cell (i:=0) rfl)) (fun _ _ _ h=>h) hS ?_
 refine aj 1 (some 4) (.pointer (some ⟨g,0,none⟩)) (by kernel_rfl) (fun _ _=>by kernel_rfl) (fun _ _ _ h=>h) hS ?_
 refine aj 2 (some 5) (.pointer (some ⟨g,0,none⟩)) (by kernel_rfl) (fun _ _=>by kernel_rfl) (fun _ _ _ h=>h) hS ?_
 refine aL 3 (some 6) (.pointer (some ⟨m,0,none⟩)) 86 5 g 0 (by kernel_rfl) (by kernel_rfl) (by kernel_rfl) (fun w' h=>rj (h.1.2.1.cell (i:=0) rfl)) (fun _ _ _ h=>h) hS ?_
 refine aL 4 (some 7) kv 96 1 s2 0 (by kernel_rfl) (by kernel_rfl) (by kernel_rfl) (fun w' h=>uu (h.1.2.2.cell (i:=0) rfl)) (fun _ _ _ h=>h) hS ?_
 refine aL 5 (some 8) vv 96 2 s3 0 (by kernel_rfl) (by kernel_rfl) (by kernel_rfl) (fun w' h=>uu (h.2.cell (i:=0) rfl)) (fun _ _ _ h=>h) hS ?_
 refine aU 6 (some 9) 97 #[.pointer (some ⟨m,0,none⟩),kv,vv] (by kernel_rfl) (by kernel_rfl) u ?_
 rintro e' w1 ⟨rfl,F',M',hF,hC⟩;refine⟨_,rfl,⟨⟨hS.1.1.chg hC n1,hS.1.2.1.chg hC HX.out.own.lI,hS.1.2.2.chg hC n2⟩,hS.2.chg hC n3⟩,?_⟩;refine bj (by kernel_rfl) ?_
 simp only[Act.put,List.setIfInBounds_toArray,List.set_cons_zero,List.set_cons_succ];go_end0
 have hC':Chg F w w1:=⟨hC.os,hC.tape,hC.output,hC.size,hC.same⟩
 exact⟨rfl,F',HX.out.mapped (by have:=HX.out.tot; have:=lg HX.out.map.ord.flat k v; rw[fC HX.out.map.ord]; omega) M' hF (fun _ h=>.inl h) hC',hF,hC'⟩
theorem FW{u:Und}(h:SX w K D F V g m Q jv T oj n N)(hC:pz w V D g u c)(a:N<=100000000)(k:Kv.tot T + Q.flatten.length + 1<=N) :
  ∃ f cap,c=.func (.func f) #[] cap/\Calls Tryz.prog f cap w fun e w'=>e=.returned (.tuple #[])/\∃ F' Q',SX w' (fun b=>(K b/\¬ F b)\/F' b) (fun b=>D b\/w.heap.size<=b) F' V g m Q' jv T oj n N/\Q'.flatten=lG Q.flatten u/\(∀ b,F' b->F b\/w.heap.size<=b)/\Chg F w w':=by
 obtain⟨s1,s2,kv,v1,v2,b1,b2,ok,⟨e,rfl⟩ | ⟨s3,vv,x,v3,b3,j,e,rfl⟩⟩:=hC.ex
 ·refine⟨_,_,rfl,(Dx h b1 b2 (h.own.lD _ v1) (h.own.lD _ v2) ok.by a).mono ?_⟩;rintro d w' ⟨he,F',hX,hF,hc⟩;refine⟨he,F',qu Q u.1,?_,?_,hF,hc⟩
  ·exact⟨hX.blk,hX.map.mono (fun _ _ h=>.inl h),hX.jn.mono (fun _ h=>h) (fun _ _ h=>.inl h),hX.tot,hX.len,hX.own⟩
  ·rw[gG h.map.ord];unfold lG;rw[e]
 ·refine⟨_,_,rfl,(BU h b1 b2 b3 (h.own.lD _ v1) (h.own.lD _ v2) (h.own.lD _ v3) ok.by j.by hC.short.1 (hC.short.2 x e) a).mono ?_⟩;rintro d w' ⟨he,F',hX,hF,hc⟩
  have i:Kv.tot T + (qq Q u.1 x).flatten.length<=N:=by have:=lg h.map.ord.flat u.1 x; rw[fC h.map.ord]; omega
  refine⟨he,F',_,⟨hX.blk,Mp.fit hX.map (by omega),hX.jn,i,hX.len,hX.own⟩,?_,hF,hc⟩;rw[fC h.map.ord];unfold lG;rw[e]
end
end Kv
end
section
namespace Kv
open Go.RowKit Go.Lib Pg
section
variable {w:World}{D:Nat->Prop}{v:Value}{l:List Int}{cs:List Value}
attribute [local go_sem] Oper.semAt_some
theorem jO{w':World}{x:Nat}(hc:Chg (· = x) w w')(hx:Blk w x cs 96)(O:OB w D v l):OB w' D v l :=
 ⟨O.oct,O.ex.imp id (by
  rintro⟨b,c,e,g,a⟩;refine⟨b,c,e,g,a.chg hc (fun d => ?_)⟩
  have e2:b=x:=d;subst e2;obtain⟨f,k⟩:=a.kind
  exact absurd (hx.eq k).2 (by decide))⟩
def Rst(w : World)(g : Nat)(k L : List Int)(there : Bool)(e : Ending)(w' : World) : Prop := ∃ s1 s2 s3 v1 v3, e = .returned (.func (.func (if there then 192 else 191)) #[] (if there then #[.pointer (some ⟨s1, 0, none⟩), .pointer (some ⟨s2, 0, none⟩), .pointer (some ⟨s3, 0, none⟩)] else #[.pointer (some ⟨s1, 0, none⟩), .pointer (some ⟨s2, 0, none⟩)])) ∧
      w.heap.size ≤ s1 ∧ w.heap.size ≤ s2 ∧ w.heap.size ≤ s3 ∧ Blk w' s1 [.pointer (some ⟨g, 0, none⟩)] 37 ∧ Blk w' s2 [v1] 96 ∧ Blk w' s3 [v3] 96 ∧ OB w' (w.heap.size ≤ ·) v1 k ∧ OB w' (w.heap.size ≤ ·) v3 L ∧ Below w.heap.size w w'
theorem sr{g m:Nat}{jv kv:Value}{n:Int}{k L:List Int}{there:Bool}(hg:Blk w g [.pointer (some ⟨m,0,none⟩),jv,.int .i64 n] 94)(hk:By w kv k)(hkl:k.length<=1000000000)(u:∀ w' kv',Below w.heap.size w w'->By w' kv' k->Calls Tryz.prog 170 #[.pointer (some ⟨m,0,none⟩),kv'] w' fun e w''=>∃ v,e=.returned (.tuple #[v,.bool there])/\OB w'' (w'.heap.size <= ·) v L/\Below w'.heap.size w' w'') :
  Calls Tryz.prog 145 #[.pointer (some ⟨g,0,none⟩),kv] w (Rst w g k L there):=by
 obtain⟨ao,c,rfl,-⟩:=id hk.ex;have b1:=aC w [.pointer (some ⟨g,0,none⟩)] 37;have al:=ae w (.cells #[.pointer (some ⟨g,0,none⟩)] 37)
 have as1:(w.alloc (.cells #[.pointer (some ⟨g,0,none⟩)] 37)).heap.size=w.heap.size + 1:=by simp
 have t1:=dm (hk.keep al) hkl;have HG:=aB hg;have HU:=aB u;have glt:=hg.lt;clear u hg;generalize hln:k.length=n1 at *
 cases there
 ·go_enter Tryz.func145,Tryz.ntmps145;go_wp2_with (go_at_call 78; refine t1.mono ?_; rintro e w1 ⟨v1,rfl,O1,B1⟩; obtain⟨a1,c1,rfl⟩:∃ a1 c1,v1=.slice a1 k.length c1:=(by obtain⟨a1,c1,e,_⟩:=O1.by.ex; exact⟨a1,c1,e⟩));rw[hln] at O1;have aw1:=B1.size;have al2:=ae w1 (.cells #[.slice a1 n1 c1] 96)
  have hS:Rds g m w.heap.size w1.heap.size jv n (.slice a1 n1 c1) (w1.alloc (.cells #[.slice a1 n1 c1] 96)).drew:=⟨((b1.keep B1).keep al2).drew,(((HG.out.keep al).keep B1).keep al2).drew,(aC w1 [.slice a1 n1 c1] 96).drew⟩
  have BX:Below w.heap.size w (w1.alloc (.cells #[.slice a1 n1 c1] 96)).drew:=ai (ai (ai al B1) al2) ⟨rfl,rfl,rfl,Nat.le_refl _,fun _ _=>rfl⟩
  have hXs:w1.heap.size < (w1.alloc (.cells #[.slice a1 n1 c1] 96)).drew.heap.size:=by show _ < (w1.alloc _).heap.size; simp
  replace O1:=((O1.mono (D':=(w.heap.size <= ·)) (fun b _ h=>by omega)).keep al2).keep (w':=(w1.alloc (.cells #[.slice a1 n1 c1] 96)).drew) ⟨rfl,rfl,rfl,Nat.le_refl _,fun _ _=>rfl⟩;clear t1 al2 b1 al;clear B1;refine bH (S:=Rds g m w.heap.size w1.heap.size jv n (.slice a1 n1 c1)) (by kernel_rfl) hS ?_
  generalize (w1.alloc (.cells #[.slice a1 n1 c1] 96)).drew=X at *;refine aL 0 (some 11) (.pointer (some ⟨g,0,none⟩)) 37 2 w.heap.size 0 (by kernel_rfl) (by kernel_rfl) (by kernel_rfl) (fun w' h=>yu (h.1.cell (i:=0) rfl)) (fun _ _ _ h=>h) hS ?_
  refine aj 1 (some 12) (.pointer (some ⟨g,0,none⟩)) (by kernel_rfl) (fun _ _=>by kernel_rfl) (fun _ _ _ h=>h) hS ?_
  refine aj 2 (some 13) (.pointer (some ⟨g,0,none⟩)) (by kernel_rfl) (fun _ _=>by kernel_rfl) (fun _ _ _ h=>h) hS ?_
  refine aL 3 (some 14) (.pointer (some ⟨m,0,none⟩)) 86 13 g 0 (by kernel_rfl) (by kernel_rfl) (by kernel_rfl) (fun w' h=>rj (h.2.1.cell (i:=0) rfl)) (fun _ _ _ h=>h) hS ?_
  refine aL 4 (some 15) (.slice a1 n1 c1) 96 5 w1.heap.size 0 (by kernel_rfl) (by kernel_rfl) (by kernel_rfl) (fun w' h=>uu (h.2.2.cell (i:=0) rfl)) (fun _ _ _ h=>h) hS ?_
  have bA:=ae X (.cells #[.slice none 0 0] 96);refine aO [5,9] (by kernel_rfl) (by simp) (tu 5 (some 16) 170 #[.pointer (some ⟨m,0,none⟩),.slice a1 n1 c1] (by kernel_rfl) (by kernel_rfl) (HU.out _ _ BX O1.by) ?_ (bS 9 (some 6) (.pointer (some ⟨X.heap.size,0,none⟩)) (X.alloc (.cells #[.slice none 0 0] 96)) (by kernel_rfl) (by kernel_rfl) (hS.keep bA) ?_ bB))
  ·rintro e' y ⟨v3,rfl,O3,B3⟩;obtain⟨a3,c3,rfl⟩:∃ a3 c3,v3=.slice a3 L.length c3:=(by obtain⟨a3,c3,e,_⟩:=O3.by.ex; exact⟨a3,c3,e⟩)
   refine⟨_,rfl,hS.keep B3,?_⟩;replace hS:=hS.keep B3;replace O1:=O1.keep B3;generalize L.length=n3 at *;refine aj 6 (some 10) (.tuple #[.slice a3 n3 c3,.bool false]) (by kernel_rfl) (fun _ _=>by kernel_rfl) (fun _ _ _ h=>h) hS ?_
   refine aj 7 (some 17) (.slice a3 n3 c3) (by kernel_rfl) (fun _ _=>by kernel_rfl) (fun _ _ _ h=>h) hS ?_
   refine aj 8 (some 18) (.bool false) (by kernel_rfl) (fun _ _=>by kernel_rfl) (fun _ _ _ h=>h) hS ?_
   have BW:=ai BX B3;have hX3:=B3.size;refine aO [9] (by kernel_rfl) (by simp) (bS 9 (some 6) (.pointer (some ⟨y.heap.size,0,none⟩)) (y.alloc (.cells #[.slice none 0 0] 96)) (by kernel_rfl) (by kernel_rfl) (hS.keep (ae y _)) ?_ bB);have bY:=ae y (.cells #[.slice none 0 0] 96);replace hS:=hS.keep bY;replace O1:=O1.keep bY;replace O3:=(O3.mono (D':=(w.heap.size <= ·)) (fun b _ h=>by have h':X.heap.size<=b:=h; omega)).keep bY;have b3:=aC y [.slice none 0 0] 96;replace BW:=ai BW bY;have ac:=b3.cell (i:=0) rfl;have ab:=b3.free 0
   have CS:Chg (· = y.heap.size) (y.alloc (.cells #[.slice none 0 0] 96)) ((y.alloc (.cells #[.slice none 0 0] 96)).setCell ⟨y.heap.size,0,none⟩ (.slice a3 n3 c3)):=(Chg.refl (· = y.heap.size) (y.alloc (.cells #[.slice none 0 0] 96))).cell (.inl rfl) _
   have ad:Rds g m w.heap.size w1.heap.size jv n (.slice a1 n1 c1) ((y.alloc (.cells #[.slice none 0 0] 96)).setCell ⟨y.heap.size,0,none⟩ (.slice a3 n3 c3)):=⟨hS.1.chg CS (by omega),hS.2.1.chg CS (by omega),hS.2.2.chg CS (by omega)⟩
   refine aO [10] (by kernel_rfl) (by simp) (dJ 10 ((y.alloc (.cells #[.slice none 0 0] 96)).setCell ⟨y.heap.size,0,none⟩ (.slice a3 n3 c3)) (by kernel_rfl) (oD 6 17 (by kernel_rfl) (by kernel_rfl) (by kernel_rfl) ac ab) ad ?_ bB);refine aj 11 (some 7) (.bool false) (by kernel_rfl) (fun _ _=>by kernel_rfl) (fun _ _ _ h=>h) ad ?_
   refine bj (by kernel_rfl) ?_
   simp only[Act.put,List.setIfInBounds_toArray,List.set_cons_zero,List.set_cons_succ];have aa:=aB (And.intro (b3.setCell (i:=0) (.slice a3 n3 c3)) (And.intro (jO CS b3 O3) (And.intro (jO CS b3 O1) (And.intro ad (BW.trans (CS.below (B:=w.heap.size) (fun b e=>by omega) BW.size))))));have g3:=aB (show w.heap.size<=y.heap.size by omega);clear ac ab CS b3 O3 hS bA O1 BW ad HU BX HG;generalize (y.alloc (.cells #[.slice none 0 0] 96)).setCell ⟨y.heap.size,0,none⟩ (.slice a3 n3 c3)=Z at *;go_wp2;go_ret;exact⟨_,_,_,_,_,rfl,Nat.le_refl _,by omega,g3.out,aa.out.2.2.2.1.1,aa.out.2.2.2.1.2.2,aa.out.1,aa.out.2.2.1,aa.out.2.1,aa.out.2.2.2.2⟩
  ·replace hS:=hS.keep bA;replace O1:=O1.keep bA;have BX2:=ai BX bA;have b3:=aC X [.slice none 0 0] 96
   have hs3:X.heap.size < (X.alloc (.cells #[.slice none 0 0] 96)).heap.size:=by simp
   refine aU 5 (some 16) 170 #[.pointer (some ⟨m,0,none⟩),.slice a1 n1 c1] (by kernel_rfl) (by kernel_rfl) (HU.out _ _ BX2 O1.by) ?_
   rintro e' y ⟨v3,rfl,O3,B3⟩;obtain⟨a3,c3,rfl⟩:∃ a3 c3,v3=.slice a3 L.length c3:=(by obtain⟨a3,c3,e,_⟩:=O3.by.ex; exact⟨a3,c3,e⟩)
   refine⟨_,rfl,hS.keep B3,?_⟩;replace hS:=hS.keep B3;replace O1:=O1.keep B3;generalize L.length=n3 at *;refine aj 6 (some 10) (.tuple #[.slice a3 n3 c3,.bool false]) (by kernel_rfl) (fun _ _=>by kernel_rfl) (fun _ _ _ h=>h) hS ?_
   refine aj 7 (some 17) (.slice a3 n3 c3) (by kernel_rfl) (fun _ _=>by kernel_rfl) (fun _ _ _ h=>h) hS ?_
   refine aj 8 (some 18) (.bool false) (by kernel_rfl) (fun _ _=>by kernel_rfl) (fun _ _ _ h=>h) hS ?_
   have BW:=ai BX2 B3;replace b3:=b3.keep B3;replace O3:=O3.mono (D':=(w.heap.size <= ·)) (fun b _ h=>by have h':(X.alloc (.cells #[.slice none 0 0] 96)).heap.size<=b:=h; omega);have ac:=b3.cell (i:=0) rfl;have ab:=b3.free 0
   have CS:Chg (· = X.heap.size) (y) ((y).setCell ⟨X.heap.size,0,none⟩ (.slice a3 n3 c3)):=(Chg.refl (· = X.heap.size) (y)).cell (.inl rfl) _
   have ad:Rds g m w.heap.size w1.heap.size jv n (.slice a1 n1 c1) ((y).setCell ⟨X.heap.size,0,none⟩ (.slice a3 n3 c3)):=⟨hS.1.chg CS (by omega),hS.2.1.chg CS (by omega),hS.2.2.chg CS (by omega)⟩
   refine aO [10] (by kernel_rfl) (by simp) (dJ 10 ((y).setCell ⟨X.heap.size,0,none⟩ (.slice a3 n3 c3)) (by kernel_rfl) (oD 6 17 (by kernel_rfl) (by kernel_rfl) (by kernel_rfl) ac ab) ad ?_ bB);refine aj 11 (some 7) (.bool false) (by kernel_rfl) (fun _ _=>by kernel_rfl) (fun _ _ _ h=>h) ad ?_
   refine bj (by kernel_rfl) ?_
   simp only[Act.put,List.setIfInBounds_toArray,List.set_cons_zero,List.set_cons_succ];have aa:=aB (And.intro (b3.setCell (i:=0) (.slice a3 n3 c3)) (And.intro (jO CS b3 O3) (And.intro (jO CS b3 O1) (And.intro ad (BW.trans (CS.below (B:=w.heap.size) (fun b e=>by omega) BW.size))))));have g3:=aB (show w.heap.size<=X.heap.size by omega);clear ac ab CS b3 O3 hS bA O1 BW ad HU BX HG;generalize (y).setCell ⟨X.heap.size,0,none⟩ (.slice a3 n3 c3)=Z at *;go_wp2;go_ret;exact⟨_,_,_,_,_,rfl,Nat.le_refl _,by omega,g3.out,aa.out.2.2.2.1.1,aa.out.2.2.2.1.2.2,aa.out.1,aa.out.2.2.1,aa.out.2.1,aa.out.2.2.2.2⟩
 ·go_enter Tryz.func145,Tryz.ntmps145;go_wp2_with (go_at_call 78; refine t1.mono ?_; rintro e w1 ⟨v1,rfl,O1,B1⟩; obtain⟨a1,c1,rfl⟩:∃ a1 c1,v1=.slice a1 k.length c1:=(by obtain⟨a1,c1,e,_⟩:=O1.by.ex; exact⟨a1,c1,e⟩));rw[hln] at O1;have aw1:=B1.size;have al2:=ae w1 (.cells #[.slice a1 n1 c1] 96)
  have hS:Rds g m w.heap.size w1.heap.size jv n (.slice a1 n1 c1) (w1.alloc (.cells #[.slice a1 n1 c1] 96)).drew:=⟨((b1.keep B1).keep al2).drew,(((HG.out.keep al).keep B1).keep al2).drew,(aC w1 [.slice a1 n1 c1] 96).drew⟩
  have BX:Below w.heap.size w (w1.alloc (.cells #[.slice a1 n1 c1] 96)).drew:=ai (ai (ai al B1) al2) ⟨rfl,rfl,rfl,Nat.le_refl _,fun _ _=>rfl⟩
  have hXs:w1.heap.size < (w1.alloc (.cells #[.slice a1 n1 c1] 96)).drew.heap.size:=by show _ < (w1.alloc _).heap.size; simp
  replace O1:=((O1.mono (D':=(w.heap.size <= ·)) (fun b _ h=>by omega)).keep al2).keep (w':=(w1.alloc (.cells #[.slice a1 n1 c1] 96)).drew) ⟨rfl,rfl,rfl,Nat.le_refl _,fun _ _=>rfl⟩;clear t1 al2 b1 al;clear B1;refine bH (S:=Rds g m w.heap.size w1.heap.size jv n (.slice a1 n1 c1)) (by kernel_rfl) hS ?_
  generalize (w1.alloc (.cells #[.slice a1 n1 c1] 96)).drew=X at *;refine aL 0 (some 11) (.pointer (some ⟨g,0,none⟩)) 37 2 w.heap.size 0 (by kernel_rfl) (by kernel_rfl) (by kernel_rfl) (fun w' h=>yu (h.1.cell (i:=0) rfl)) (fun _ _ _ h=>h) hS ?_
  refine aj 1 (some 12) (.pointer (some ⟨g,0,none⟩)) (by kernel_rfl) (fun _ _=>by kernel_rfl) (fun _ _ _ h=>h) hS ?_
  refine aj 2 (some 13) (.pointer (some ⟨g,0,none⟩)) (by kernel_rfl) (fun _ _=>by kernel_rfl) (fun _ _ _ h=>h) hS ?_
  refine aL 3 (some 14) (.pointer (some ⟨m,0,none⟩)) 86 13 g 0 (by kernel_rfl) (by kernel_rfl) (by kernel_rfl) (fun w' h=>rj (h.2.1.cell (i:=0) rfl)) (fun _ _ _ h=>h) hS ?_
  refine aL 4 (some 15) (.slice a1 n1 c1) 96 5 w1.heap.size 0 (by kernel_rfl) (by kernel_rfl) (by kernel_rfl) (fun w' h=>uu (h.2.2.cell (i:=0) rfl)) (fun _ _ _ h=>h) hS ?_
  have bA:=ae X (.cells #[.slice none 0 0] 96);refine aO [5,9] (by kernel_rfl) (by simp) (tu 5 (some 16) 170 #[.pointer (some ⟨m,0,none⟩),.slice a1 n1 c1] (by kernel_rfl) (by kernel_rfl) (HU.out _ _ BX O1.by) ?_ (bS 9 (some 6) (.pointer (some ⟨X.heap.size,0,none⟩)) (X.alloc (.cells #[.slice none 0 0] 96)) (by kernel_rfl) (by kernel_rfl) (hS.keep bA) ?_ bB))
  ·rintro e' y ⟨v3,rfl,O3,B3⟩;obtain⟨a3,c3,rfl⟩:∃ a3 c3,v3=.slice a3 L.length c3:=(by obtain⟨a3,c3,e,_⟩:=O3.by.ex; exact⟨a3,c3,e⟩)
   refine⟨_,rfl,hS.keep B3,?_⟩;replace hS:=hS.keep B3;replace O1:=O1.keep B3;generalize L.length=n3 at *;refine aj 6 (some 10) (.tuple #[.slice a3 n3 c3,.bool true]) (by kernel_rfl) (fun _ _=>by kernel_rfl) (fun _ _ _ h=>h) hS ?_
   refine aj 7 (some 17) (.slice a3 n3 c3) (by kernel_rfl) (fun _ _=>by kernel_rfl) (fun _ _ _ h=>h) hS ?_
   refine aj 8 (some 18) (.bool true) (by kernel_rfl) (fun _ _=>by kernel_rfl) (fun _ _ _ h=>h) hS ?_
   have BW:=ai BX B3;have hX3:=B3.size;refine aO [9] (by kernel_rfl) (by simp) (bS 9 (some 6) (.pointer (some ⟨y.heap.size,0,none⟩)) (y.alloc (.cells #[.slice none 0 0] 96)) (by kernel_rfl) (by kernel_rfl) (hS.keep (ae y _)) ?_ bB);have bY:=ae y (.cells #[.slice none 0 0] 96);replace hS:=hS.keep bY;replace O1:=O1.keep bY;replace O3:=(O3.mono (D':=(w.heap.size <= ·)) (fun b _ h=>by have h':X.heap.size<=b:=h; omega)).keep bY;have b3:=aC y [.slice none 0 0] 96;replace BW:=ai BW bY;have ac:=b3.cell (i:=0) rfl;have ab:=b3.free 0
   have CS:Chg (· = y.heap.size) (y.alloc (.cells #[.slice none 0 0] 96)) ((y.alloc (.cells #[.slice none 0 0] 96)).setCell ⟨y.heap.size,0,none⟩ (.slice a3 n3 c3)):=(Chg.refl (· = y.heap.size) (y.alloc (.cells #[.slice none 0 0] 96))).cell (.inl rfl) _
   have ad:Rds g m w.heap.size w1.heap.size jv n (.slice a1 n1 c1) ((y.alloc (.cells #[.slice none 0 0] 96)).setCell ⟨y.heap.size,0,none⟩ (.slice a3 n3 c3)):=⟨hS.1.chg CS (by omega),hS.2.1.chg CS (by omega),hS.2.2.chg CS (by omega)⟩
   refine aO [10] (by kernel_rfl) (by simp) (dJ 10 ((y.alloc (.cells #[.slice none 0 0] 96)).setCell ⟨y.heap.size,0,none⟩ (.slice a3 n3 c3)) (by kernel_rfl) (oD 6 17 (by kernel_rfl) (by kernel_rfl) (by kernel_rfl) ac ab) ad ?_ bB);refine aj 11 (some 7) (.bool true) (by kernel_rfl) (fun _ _=>by kernel_rfl) (fun _ _ _ h=>h) ad ?_
   refine bj (by kernel_rfl) ?_
   simp only[Act.put,List.setIfInBounds_toArray,List.set_cons_zero,List.set_cons_succ];have aa:=aB (And.intro (b3.setCell (i:=0) (.slice a3 n3 c3)) (And.intro (jO CS b3 O3) (And.intro (jO CS b3 O1) (And.intro ad (BW.trans (CS.below (B:=w.heap.size) (fun b e=>by omega) BW.size))))));have g3:=aB (show w.heap.size<=y.heap.size by omega);clear ac ab CS b3 O3 hS bA O1 BW ad HU BX HG;generalize (y.alloc (.cells #[.slice none 0 0] 96)).setCell ⟨y.heap.size,0,none⟩ (.slice a3 n3 c3)=Z at *;go_wp2;go_ret;exact⟨_,_,_,_,_,rfl,Nat.le_refl _,by omega,g3.out,aa.out.2.2.2.1.1,aa.out.2.2.2.1.2.2,aa.out.1,aa.out.2.2.1,aa.out.2.1,aa.out.2.2.2.2⟩
  ·replace hS:=hS.keep bA;replace O1:=O1.keep bA;have BX2:=ai BX bA;have b3:=aC X [.slice none 0 0] 96
   have hs3:X.heap.size < (X.alloc (.cells #[.slice none 0 0] 96)).heap.size:=by simp
   refine aU 5 (some 16) 170 #[.pointer (some ⟨m,0,none⟩),.slice a1 n1 c1] (by kernel_rfl) (by kernel_rfl) (HU.out _ _ BX2 O1.by) ?_
   rintro e' y ⟨v3,rfl,O3,B3⟩;obtain⟨a3,c3,rfl⟩:∃ a3 c3,v3=.slice a3 L.length c3:=(by obtain⟨a3,c3,e,_⟩:=O3.by.ex; exact⟨a3,c3,e⟩)
   refine⟨_,rfl,hS.keep B3,?_⟩;replace hS:=hS.keep B3;replace O1:=O1.keep B3;generalize L.length=n3 at *;refine aj 6 (some 10) (.tuple #[.slice a3 n3 c3,.bool true]) (by kernel_rfl) (fun _ _=>by kernel_rfl) (fun _ _ _ h=>h) hS ?_
   refine aj 7 (some 17) (.slice a3 n3 c3) (by kernel_rfl) (fun _ _=>by kernel_rfl) (fun _ _ _ h=>h) hS ?_
   refine aj 8 (some 18) (.bool true) (by kernel_rfl) (fun _ _=>by kernel_rfl) (fun _ _ _ h=>h) hS ?_
   have BW:=ai BX2 B3;replace b3:=b3.keep B3;replace O3:=O3.mono (D':=(w.heap.size <= ·)) (fun b _ h=>by have h':(X.alloc (.cells #[.slice none 0 0] 96)).heap.size<=b:=h; omega);have ac:=b3.cell (i:=0) rfl;have ab:=b3.free 0
   have CS:Chg (· = X.heap.size) (y) ((y).setCell ⟨X.heap.size,0,none⟩ (.slice a3 n3 c3)):=(Chg.refl (· = X.heap.size) (y)).cell (.inl rfl) _
   have ad:Rds g m w.heap.size w1.heap.size jv n (.slice a1 n1 c1) ((y).setCell ⟨X.heap.size,0,none⟩ (.slice a3 n3 c3)):=⟨hS.1.chg CS (by omega),hS.2.1.chg CS (by omega),hS.2.2.chg CS (by omega)⟩
   refine aO [10] (by kernel_rfl) (by simp) (dJ 10 ((y).setCell ⟨X.heap.size,0,none⟩ (.slice a3 n3 c3)) (by kernel_rfl) (oD 6 17 (by kernel_rfl) (by kernel_rfl) (by kernel_rfl) ac ab) ad ?_ bB);refine aj 11 (some 7) (.bool true) (by kernel_rfl) (fun _ _=>by kernel_rfl) (fun _ _ _ h=>h) ad ?_
   refine bj (by kernel_rfl) ?_
   simp only[Act.put,List.setIfInBounds_toArray,List.set_cons_zero,List.set_cons_succ];have aa:=aB (And.intro (b3.setCell (i:=0) (.slice a3 n3 c3)) (And.intro (jO CS b3 O3) (And.intro (jO CS b3 O1) (And.intro ad (BW.trans (CS.below (B:=w.heap.size) (fun b e=>by omega) BW.size))))));have g3:=aB (show w.heap.size<=X.heap.size by omega);clear ac ab CS b3 O3 hS bA O1 BW ad HU BX HG;generalize (y).setCell ⟨X.heap.size,0,none⟩ (.slice a3 n3 c3)=Z at *;go_wp2;go_ret;exact⟨_,_,_,_,_,rfl,Nat.le_refl _,by omega,g3.out,aa.out.2.2.2.1.1,aa.out.2.2.2.1.2.2,aa.out.1,aa.out.2.2.1,aa.out.2.1,aa.out.2.2.2.2⟩
end
end Kv
end
section
namespace Kv
open Go.RowKit Go.Lib Pg
section
variable {w:World} {b n c i:Nat} {xs:List Value}
end
end Kv
end
section
namespace Kv
open Go.RowKit Go.Lib Pg
section
variable {w:World}{V D:Nat->Prop}{g:Nat}{j:Jr}{cs':List Value}{bv v jv:Value}{o:Option Nat}{l:List Nat}{Q:List (List KV)}{T0:List Jr}
attribute [local go_sem] Oper.semAt_some
theorem uG(ao:Option Addr)(n c:Nat)(hn:n<=c)(bo:Option Addr)(c':Nat):(Builtin.append_ #[270,270] 270 #[.slice ao n c,.slice bo 0 c']).run Tryz.prog w=.ok (.slice ao n c) w:=by
 obtain⟨i,hi,d,hs,hb⟩:=info_parts KF.inf;have:(Builtin.firstCells i.size 0 (.slice bo 0 c')).run Tryz.prog w=.ok #[] w:=by
  cases bo with
  | none=>rfl
  | some a=>exact run_firstCells_some w i.size 0 a 0 c' [] (by simp) (fun j v b=>by simp at b)
 cases ao with
 | none=>simp[Builtin.append_,run_underlying KF.und,sizeOf,typeInfo,hi,Builtin.lenOf,this,hn]
 | some a=>simp[Builtin.append_,run_underlying KF.und,sizeOf,typeInfo,hi,Builtin.lenOf,this,hn,storeCells]
def FO(w:World)(bv:Value)(cs:List Value):Prop:=(bv=.slice none 0 0/\cs=[])\/∃ a c,bv=.slice (some a) cs.length c/\∀ i x,cs[i]? = some x->w.cell? (a.add i)=some x
theorem CA{u:List Und}(J:JrA w V D g j)(hC:gm w V D g u cs')(hb:FO w bv cs')(hlen:j.U.length + u.length<=1000000000) :
  ∃ v' o' w',(Builtin.append_ #[270,270] 270 #[j.v,bv]).run Tryz.prog w=.ok v' w'/\(∃ ao n c,v'=.slice ao n c)/\JrA w' V D g ⟨j.U ++ u,v',o'⟩/\(∀ b,o'=some b->j.o=some b\/b=w.heap.size)/\Chg (fun b=>j.o=some b) w w':=by
 obtain⟨cs,hc,F⟩:=J;have d:=hC.1;by_cases B:u=[]
 ·subst B
  have p:cs'=[]:=List.eq_nil_of_length_eq_zero (by rw[d]; rfl);subst p;obtain⟨t,l,rfl⟩:∃ t l,bv=.slice t 0 l:=by
   rcases hb with⟨e,_⟩ | ⟨a,c,e,_⟩
   ·exact⟨none,0,e⟩
   ·exact⟨some a,c,e⟩
  rcases F with⟨e1,e2,e3⟩ | ⟨b,c,e1,e2,hR⟩
  ·refine⟨_,j.o,w,by rw[e2]; exact uG none 0 0 (Nat.le_refl _) t l,⟨none,0,0,rfl⟩,⟨cs,by simpa using hc,.inl ⟨e1,rfl,by simpa using e3⟩⟩,fun b h=>.inl h,Chg.refl _ _⟩
  ·refine⟨_,j.o,w,by rw[e2]; exact uG _ _ _ hR.le.1 t l,⟨_,_,_,rfl⟩,⟨cs,by simpa using hc,.inr ⟨b,c,e1,by simp,by simpa using hR⟩⟩,fun b h=>.inl h,Chg.refl _ _⟩
 ·obtain⟨a,ca,rfl,f⟩:∃ a c,bv=.slice (some a) cs'.length c/\∀ i x,cs'[i]? = some x->w.cell? (a.add i)=some x:=by
   rcases hb with⟨_,e⟩ | h
   ·rw[e] at d; exact absurd (List.eq_nil_of_length_eq_zero d.symm) B
   ·exact h
  have s:0 < cs'.length:=by rw[d]; exact List.length_pos_iff.2 B
  rcases F with⟨e1,e2,e3⟩ | ⟨b,c,e1,e2,hR⟩
  ·have p:cs=[]:=List.eq_nil_of_length_eq_zero (by rw[hc.1,e3]; rfl);subst p;obtain⟨l,W,C,m,z⟩:=fy (w:=w) KF 270 a cs'.length ca cs' (by simp) f s (by omega) (by omega);refine⟨_,some w.heap.size,W,by rw[e2]; exact C,⟨_,_,_,rfl⟩,⟨cs',?_,.inr ⟨_,l,rfl,by rw[e3,d]; rfl,by rw[e3]; simpa[d] using m⟩⟩,fun b h=>.inr (by cases h; rfl),Chg.of z⟩;rw[e3];exact hC.stay ⟨fun b _ _ _ k _=>z.block b k.lt,fun b I _ _=>z.block b I⟩
  ·obtain⟨E,l,W,C,A,m,r⟩:=dK KF 270 hR a cs'.length ca cs' (by simp) f hC.one (by omega) (by omega);obtain⟨G,y⟩:=hR.kind
   have q:lT V D w W:=oh y (by decide) (by decide) (by decide) r;refine⟨_,some E,W,by rw[e2]; exact C,⟨_,_,_,rfl⟩,⟨cs ++ cs',(hc.stay q).app (hC.stay q),.inr ⟨E,l,rfl,by simp[d],by simpa[d] using m⟩⟩,fun x h => ?_,r.mono (fun x _ e=>by have H:x=b:=e; rw[H,e1])⟩
   cases h;rcases A with e | e
   ·exact .inl (by rw[e1,e])
   ·exact .inr e
theorem ld_jr{o:Nat}(c:w.cell? ⟨g,o,none⟩=some v):(loadVar 270 ⟨g,o,none⟩).run Tryz.prog w=.ok v w:=by go_simp
theorem uH(T0:List Jr)(j:Jr):tot (T0 ++ [j])=tot T0 + j.U.length:=by simp[tot]
theorem oI : (l ++ o.toList).Nodup ↔ l.Nodup ∧ ∀ b, o = some b → b ∉ l := by
  cases o with
  | none => simp
  | some x => simp[List.nodup_append]; intro _; constructor
              · intro h hx; exact h x hx rfl
              · intro h a c e; subst e; exact h c
theorem xY(T0:List Jr)(j:Jr):(T0 ++ [j]).filterMap Jr.o=T0.filterMap Jr.o ++ j.o.toList:=by
 rw[List.filterMap_append];congr 1
theorem SX.inner{w2:World}{K F:Nat->Prop}{m r:Nat}{j':Jr}{n N N':Nat}(h:SX w K D F V g m Q jv (T0 ++ [j]) (some r) n N)(E:JrA w2 V D g j')(C:∀ b,j'.o=some b->j.o=some b\/w.heap.size<=b)(H:N<=N')(a:Kv.tot (T0 ++ [j']) + Q.flatten.length<=N')(s:∃ c,jv=.slice (some ⟨r,0,none⟩) (T0 ++ [j]).length c/\Rw w2 273 1 r (T0 ++ [j]).length c ((T0 ++ [j']).map Jr.v))(hc:Chg (fun b=>j.o=some b\/b=r) w w2) :
  SX w2 (fun b=>(K b/\¬ j.o=some b)\/j'.o=some b) D F V g m Q jv (T0 ++ [j']) (some r) n N':=by
 have f:j∈T0 ++ [j]:=by simp
 have hx:∀ b cs t,Blk w b cs t->t≠1->t≠273->w2.heap[b]? = w.heap[b]? := fun b cs t k q y=>hc.same b k.lt (fun e=>by
  rcases e with e | e
  ·obtain⟨p,l⟩:=(h.jn.each j f).kind e;exact q (k.eq l).2
  ·subst e;obtain⟨p,l⟩:=h.jn.kind rfl
   exact y (k.eq l).2)
 have A:∀ b,(j.o=some b\/b=r)->¬ F b:=fun b e=>e.elim (h.own.p5 j f b) (fun e=>by subst e; exact h.own.oS _ rfl)
 have u:lT V D w w2:=⟨fun b cs t _ k a=>hx b cs t k (by rcases a with e | e<;>subst e<;>decide) (by rcases a with e | e<;>subst e<;>decide),fun b _ _ k=>by obtain⟨cs,k⟩:=k; exact hx b cs _ k (by decide) (by decide)⟩
 have x:∀ t∈T0 ++ [j],∀ b,t.o=some b->b < w.heap.size:=fun t a b e=>by obtain⟨cs,k⟩:=(h.jn.each t a).kind e; exact k.lt
 have i:=h.jn.apart;rw[xY,oI] at i;refine⟨⟨by rw[hx g _ _ h.blk (by decide) (by decide)]; exact h.blk.blk⟩,h.map.same (fun b hF=>hc.same b (h.map.lt hF) (fun e=>A b e hF)) (fun b _ _ k=>by obtain⟨cs,k⟩:=k; exact hx b cs _ k (by decide) (by decide)) |>.more H,⟨?_,?_,?_⟩,a,by have:=h.len; simp at this ⊢; omega,?_⟩
 ·obtain⟨c,e,B⟩:=s;exact .inr ⟨r,c,rfl,by rw[e]; simp,by simpa using B⟩
 ·intro t a;rcases List.mem_append.1 a with d | d
  ·refine(h.jn.each t (List.mem_append_left _ d)).stay u (fun b e => ?_);refine hc.same b (x t (List.mem_append_left _ d) b e) (fun e2 => ?_);rcases e2 with e2 | e2
   ·exact i.2 b e2 (List.mem_filterMap.2 ⟨t,d,e⟩)
   ·subst e2;obtain⟨cs,k⟩:=(h.jn.each t (List.mem_append_left _ d)).kind e;obtain⟨p,l⟩:=h.jn.kind rfl;exact absurd (k.eq l).2 (by decide)
  ·simp at d; subst d; exact E
 ·rw[xY,oI];refine⟨i.1,fun b e hm => ?_⟩;rcases C b e with q | q
  ·exact i.2 b q hm
  ·obtain⟨t,y,G⟩:=List.mem_filterMap.1 hm;have:=x t (List.mem_append_left _ y) b G;omega
 ·have z:∀ b cs t,Blk w b cs t->t≠1->¬ j.o=some b:=fun b cs t k q e=>by
   obtain⟨p,l⟩:=(h.jn.each j f).kind e;exact q (k.eq l).2
  refine⟨.inl ⟨h.own.top,z g _ _ h.blk (by decide)⟩,fun b hb=>.inl ⟨h.own.map b hb,fun e=>h.own.p5 j f b e hb⟩,fun b hb => ?_,fun b hb => ?_,fun t a b e => ?_,fun b hb => ?_,h.own.lI,h.own.lD,h.own.oS,fun t a b e => ?_,fun b hv=>by
   obtain⟨cs,t,k,a⟩:=h.own.vk b hv
   exact⟨cs,t,k.same (u.var b cs t hv k a),a⟩⟩
  ·obtain⟨cs,t,k,a⟩:=h.own.vk b hb;exact .inl ⟨h.own.var b hb,z b cs t k (by rcases a with e | e<;>subst e<;>decide)⟩
  ·cases hb;obtain⟨p,l⟩:=h.jn.kind rfl;exact .inl ⟨h.own.jrn _ rfl,z _ _ _ l (by decide)⟩
  ·rcases List.mem_append.1 a with d | d
   ·exact .inl ⟨h.own.bck t (List.mem_append_left _ d) b e,fun e2=>i.2 b e2 (List.mem_filterMap.2 ⟨t,d,e⟩)⟩
   ·simp at d; subst d; exact .inr e
  ·rcases hb with⟨hb,hn⟩ | hb
   ·by_cases e:b=r
    ·subst e;obtain⟨c,_,B⟩:=s;obtain⟨cs,k⟩:=B.kind;exact⟨cs,_,k,by decide⟩
    ·obtain⟨cs,t,k,a⟩:=h.own.kind b hb;exact⟨cs,t,k.chg hc (fun e2=>e2.elim hn e),a⟩
   ·obtain⟨cs,k⟩:=E.kind hb;exact⟨cs,_,k,by decide⟩
  ·rcases List.mem_append.1 a with d | d
   ·exact h.own.p5 t (List.mem_append_left _ d) b e
   ·simp at d; subst d;rcases C b e with q | q
    ·exact h.own.p5 j f b q
    ·intro hF;have:=h.map.lt hF;omega
end
end Kv
end
section
namespace Kv
open Go.RowKit Go.Lib Pg
section
variable {w:World}{V D:Nat->Prop}{g:Nat}{jv bv:Value}{T0:List Jr}{j:Jr}{oj:Option Nat}{Q:List (List KV)}{cs':List Value}
attribute [local go_sem] Oper.semAt_some
theorem Ag(T0:List Jr)(j j':Jr):((T0 ++ [j]).map Jr.v).set T0.length j'.v=(T0 ++ [j']).map Jr.v:=by
 rw[List.map_append,List.map_append,List.set_append_right _ _ (by simp)];simp
theorem JnA.last(h:JnA w V D g jv (T0 ++ [j]) oj):∃ jb c,oj=some jb/\jv=.slice (some ⟨jb,0,none⟩) (T0.length + 1) c/\Rw w 273 1 jb (T0.length + 1) c ((T0 ++ [j]).map Jr.v):=by
 rcases h.row with⟨_,_,e⟩ | ⟨b,c,e1,e2,hR⟩
 ·exact absurd e (by simp)
 ·exact⟨b,c,e1,by rw[e2]; simp,by simpa using hR⟩
theorem Hp{K F:Nat->Prop}{m:Nat}{n N:Nat}{U':List Und}(h:SX w K D F V g m Q jv (T0 ++ [j]) oj n N)(hC:gm w V D g U' cs')(hb:FO w bv cs'){N':Nat}(hN1:N<=N')(hN2:Kv.tot (T0 ++ [j]) + U'.length + Q.flatten.length<=N')(hN3:N'<=1000000000) :
  Calls Tryz.prog 144 #[.pointer (some ⟨g,0,none⟩),bv] w fun e w'=>e=.returned (.tuple #[])/\∃ K' j',j'.U=j.U ++ U'/\SX w' K' D F V g m Q jv (T0 ++ [j']) oj n N'/\(∀ b,K' b->K b\/w.heap.size<=b)/\Chg K w w':=by
 have hlen:j.U.length + U'.length<=1000000000:=by rw[uH] at hN2; omega
 obtain⟨jb,c,rfl,rfl,hR⟩:=h.jn.last;obtain⟨v',o',w1,hr,⟨ao,n',c',rfl⟩,hJ,ho,hc1⟩:=CA (h.jn.each j (by simp)) hC hb hlen
 have hjm:j∈T0 ++ [j]:=by simp
 have ud:=qz h.blk;have c1:=h.blk.cell (i:=1) rfl;have hcell:=hR.cell (i:=T0.length) (v:=j.v) (by simp)
 have hjb:¬ j.o=some jb:=fun e=>by
  obtain⟨cs,k⟩:=(h.jn.each j hjm).kind e;obtain⟨cs',k'⟩:=hR.kind;exact absurd (k.eq k').2 (by decide)
 have aa:=hR.chg hc1 hjb;have hcell1:=aa.cell (i:=T0.length) (v:=j.v) (by simp);have hfree1:=aa.free T0.length;have hle:=hR.le
 have hvs:∃ a1 n1 c1,j.v=.slice a1 n1 c1:=by
  obtain⟨cs,_,⟨_,e,_⟩ | ⟨b,c,_,e,_⟩⟩:=h.jn.each j hjm
  ·exact⟨_,_,_,e⟩
  ·exact⟨_,_,_,e⟩
 obtain⟨a1,n1,c2,hjv⟩:=hvs;rw[hjv] at hcell hcell1 hr
 have hbs:∃ a2 n2 c3,bv=.slice a2 n2 c3:=by
  rcases hb with⟨e,_⟩ | ⟨a,c,e,_⟩
  ·exact⟨_,_,_,e⟩
  ·exact⟨_,_,_,e⟩
 obtain⟨a2,n2,c3,hbv⟩:=hbs;subst hbv
 have hg0:(0:Int) < (T0.length:Int) + 1:=by omega
 have hg1:(T0.length:Int)<=16:=by have:=h.len; simp at this; omega
 have FIN:Hid (∃ K' j',j'.U=j.U ++ U'/\SX (w1.setCell ⟨jb,T0.length,none⟩ (.slice ao n' c')) K' D F V g m Q (.slice (some ⟨jb,0,none⟩) (T0.length + 1) c) (T0 ++ [j']) (some jb) n N'/\(∀ b,K' b->K b\/w.heap.size<=b)/\Chg K w (w1.setCell ⟨jb,T0.length,none⟩ (.slice ao n' c'))):=by
  have hc2:Chg (fun b=>j.o=some b\/b=jb) w (w1.setCell ⟨jb,T0.length,none⟩ (.slice ao n' c')):=(hc1.mono (fun b _ e=>.inl e)).cell (.inl (.inr rfl)) _;obtain⟨cs,kj⟩:=aa.kind
  have hJ2:JrA (w1.setCell ⟨jb,T0.length,none⟩ (.slice ao n' c')) V D g ⟨j.U ++ U',.slice ao n' c',o'⟩:=hJ.stay (oh kj (by decide) (by decide) (by decide) ((Chg.refl (· = jb) w1).cell (.inl rfl) _)) (fun b e=>by
   have hne:b≠jb:=fun e2=>by
    subst e2;obtain⟨cs',k'⟩:=hJ.kind e;exact absurd (k'.eq kj).2 (by decide)
   exact Below.heap_setCell _ _ _ _ hne)
  have hS:=h.inner (j':=⟨j.U ++ U',.slice ao n' c',o'⟩) hJ2 (fun b e=>(ho b e).imp id (fun e=>by omega)) (N':=N') hN1 (by rw[uH] at hN2 ⊢; simp only[List.length_append]; omega) ⟨c,by simp,by
   have:=aa.set T0.length (by simp) (.slice ao n' c');rw[Ag T0 j ⟨j.U ++ U',.slice ao n' c',o'⟩] at this
   simpa using this⟩ hc2
  refine⟨_,_,rfl,hS,fun b hb => ?_,hc2.mono (fun b _ e => ?_)⟩
  ·rcases hb with hb | hb
   ·exact .inl hb.1
   ·rcases ho b hb with e | e
    ·exact .inl (h.own.bck j hjm b e)
    ·exact .inr (by omega)
  ·rcases e with e | e
   ·exact h.own.bck j hjm b e
   ·subst e; exact h.own.jrn _ rfl
 clear h hC hb hR aa hJ ho hc1 hjb hlen;generalize T0.length=q at *;go_enter Tryz.func144,Tryz.ntmps144;go_wp2_with first
  | (go_at_call 143; go_must (refine ud.mono ?_); rintro e y ⟨rfl,hy⟩; replace hy:=hy.symm; subst hy)
  | (at_builtin; refine Lib.wpList_append_run _ rfl _ _ _ _ rfl _ _ rfl rfl _ _ hr ?_)
 go_end0;exact⟨rfl,FIN.out⟩
end
end Kv
end
section
namespace Kv
open Go.RowKit Go.Lib Pg
section
variable {w:World}{K D F V:Nat->Prop}{g m n N:Nat}{Q:List (List KV)}{jv kv:Value}{T T0:List Jr}{oj:Option Nat}{k:List Int}
attribute [local go_sem] Oper.semAt_some
theorem zX(h:SX w K D F V g m Q jv T oj n N)(i:By w kv k)(a:k.length<=1000000000)(j:N<=100000000) :
  Calls Tryz.prog 145 #[.pointer (some ⟨g,0,none⟩),kv] w fun e w'=>∃ (c:Value) (S:Nat->Prop),e=.returned c/\(∃ f cap,c=.func (.func f) #[] cap)/\SX w' (fun b=>K b\/S b) (fun b=>D b\/w.heap.size<=b) F (fun b=>V b\/S b) g m Q jv T oj n N/\pz w' (fun b=>V b\/S b) (fun b=>D b\/w.heap.size<=b) g (k,look Q.flatten k) c/\(∀ b,S b->w.heap.size<=b)/\Below w.heap.size w w':=by
 refine(sr (there:=(look Q.flatten k).isSome) (L:=(look Q.flatten k).getD []) h.blk i a (fun w' l r q=>(lh (h.keep r) q j).mono fun e o h=>h)).mono ?_
 rintro e w' ⟨s1,s2,s3,v1,v3,rfl,g1,g2,g3,b1,b2,b3,p,d,B⟩
 have hX:=(h.keep B).vars (S:=fun b=>b=s1\/b=s2\/b=s3) (fun b hb hF=>by have:=h.map.lt hF; rcases hb with rfl | rfl | rfl<;>omega) (fun b hb=>by
  rcases hb with rfl | rfl | rfl
  ·exact⟨_,_,b1,.inl rfl⟩
  ·exact⟨_,_,b2,.inr rfl⟩
  ·exact⟨_,_,b3,.inr rfl⟩) (D':=fun b=>D b\/w.heap.size<=b) (fun _ _ h=>.inl h)
 refine⟨_,fun b=>b=s1\/b=s2\/b=s3,rfl,⟨_,_,rfl⟩,hX,⟨⟨a,fun x hx => ?_⟩,s1,s2,v1,.inr (.inl rfl),.inr (.inr (.inl rfl)),b1,b2,p.mono (fun _ _ h=>.inr h),?_⟩,(fun b hb=>by rcases hb with rfl | rfl | rfl<;>assumption),B⟩
 ·exact(h.map.small _ (iA hx)).2
 ·cases hl:look Q.flatten k with
  | none=>exact .inl ⟨rfl,by simp⟩
  | some x=>exact .inr ⟨s3,v3,x,.inr (.inr (.inr rfl)),b3,by rw[hl] at d; exact d.mono (fun _ _ h=>.inr h),rfl,by simp⟩
theorem oY(h:SX w K D F V g m Q jv [] oj n N) :
  Calls Tryz.prog 96 #[.pointer (some ⟨g,0,none⟩),kv] w fun e w'=>e=.returned (.tuple #[])/\w'=w:=by
 have ud:=r6 h;clear h;go_enter Tryz.func96,Tryz.ntmps96;go_wp2_with (go_at_call 143; go_must (refine ud.mono ?_); rintro e y ⟨rfl,hy⟩; replace hy:=hy.symm; subst hy);go_end0;exact⟨rfl,rfl⟩
theorem qW{j:Jr}(h:SX w K D F V g m Q jv (T0 ++ [j]) oj n N)(hk:By w kv k)(hkl:k.length<=1000000000)(hN:N<=100000000) :
  Calls Tryz.prog 96 #[.pointer (some ⟨g,0,none⟩),kv] w fun e w'=>e=.returned (.tuple #[])/\∃ K' V' j',j'.U=j.U ++ [(k,look Q.flatten k)]/\SX w' K' (fun b=>D b\/w.heap.size<=b) F V' g m Q jv (T0 ++ [j']) oj n (N + 1)/\(∀ b,K' b->K b\/w.heap.size<=b)/\Chg K w w':=by
 have ud:=r6 h;have ur:=zX h hk hkl hN;obtain⟨ao,c,rfl,-⟩:=id hk.ex;generalize k.length=kn at *
 have hl:(0:Int) < ((T0 ++ [j]).length:Int):=by simp
 have HK:Hid (∀ b,K b->b < w.heap.size):=fun b hb=>by obtain⟨cs,t,k,_⟩:=h.own.kind b hb; exact k.lt
 clear h hk;generalize (T0 ++ [j]).length=tl at *;go_enter Tryz.func96,Tryz.ntmps96;go_wp2_with first
  | (go_at_call 143; go_must (refine ud.mono ?_); rintro e y ⟨rfl,hy⟩; replace hy:=hy.symm; subst hy)
  | (go_at_call 145; go_must (refine ur.mono ?_); rintro e w1 ⟨cl,S,rfl,⟨f,cap,rfl⟩,X1,A1,hS,B1⟩; have al:=ae w1 (.cells #[.func (.func f) #[] cap] 1); have bl:=aC w1 [.func (.func f) #[] cap] 1; have CL:gm (w1.alloc (.cells #[.func (.func f) #[] cap] 1)) (fun b=>V b\/S b) (fun b=>D b\/w.heap.size<=b) g [(k,look Q.flatten k)] [.func (.func f) #[] cap]:=⟨rfl,(fun i u c hu hc=>by (have hi:i=0:=(by have:=(List.getElem?_eq_some_iff.1 hu).1; simp at this; omega)); subst hi; simp at hu hc; subst hu; subst hc; exact A1.stay ⟨fun b _ _ _ k _=>al.block b k.lt,fun b hl _ _=>al.block b hl⟩)⟩; have LI:FO (w1.alloc (.cells #[.func (.func f) #[] cap] 1)) (.slice (some ⟨w1.heap.size,0,none⟩) 1 1) [.func (.func f) #[] cap]:=.inr ⟨_,1,rfl,(fun i x hx=>by (have hi:i=0:=(by have:=(List.getElem?_eq_some_iff.1 hx).1; simp at this; omega)); subst hi; simp at hx; subst hx; exact bl.cell (i:=0) rfl)⟩; have un:=Hp (N':=N + 1) (X1.keep al) CL LI (by omega) (by have:=X1.tot; simp only[List.length_cons,List.length_nil]; omega) (by omega); clear X1 A1 CL LI bl ud ur)
  | (go_at_call 144; go_must (refine un.mono ?_); rintro e w2 ⟨rfl,K',j',hj',X2,hK',hC⟩; clear un)
 go_end0;refine⟨rfl,K',_,j',hj',X2,fun b hb => ?_,?_⟩
 ·rcases hK' b hb with(h1 | h1) | h1
  ·exact .inl h1
  ·exact .inr (hS b h1)
  ·exact .inr (by have:=B1.size; have:=al.size; omega)
 ·have B2:=ai B1 al;exact(Chg.of (F:=K) B2).trans hC (fun b hb e=>e.elim id (fun e=>by have:=hS b e; omega))
def BK(w:World)(K:Nat->Prop)(kv:Value)(k:List Int):Prop:=∀ w',Chg K w w'->By w' kv k
theorem BK.by(h:BK w K kv k):By w kv k:=h w (Chg.refl _ _)
theorem BK.shape(h:BK w K kv k):∃ ao c,kv=.slice ao k.length c:=by
 obtain⟨ao,c,e,_⟩:=h.by.ex
 exact⟨ao,c,e⟩
theorem gv{w1 w2:World}(h:Chg K w w1)(h':Chg K w1 w2):Chg K w w2:=h.trans h' (fun _ _ h=>h)
end
end Kv
end
section
namespace Kv
open Go.RowKit Go.Lib Pg
section
variable {T0 T:List Jr}{j:Jr}{W:List aE}{E E':aE}{w w':World}{K D F V:Nat->Prop}{g m n N:Nat}{Q:List (List KV)}{jv kv vv:Value}{oj:Option Nat}{k v:List Int}
attribute [local go_sem] Oper.semAt_some
theorem rr{j':Jr}{u:Und}(h:iX ((T0 ++ [j]).reverse.map Jr.U) W E)(a:j'.U=j.U ++ [u])(hu:lG E' u=E):iX ((T0 ++ [j']).reverse.map Jr.U) W E':=by
 rw[List.reverse_append] at h ⊢;simp only[List.reverse_cons,List.reverse_nil,List.nil_append,List.cons_append,List.map_cons] at h ⊢
 cases W with
 | nil=>exact h.elim
 | cons e W=>exact⟨by rw[a,wG,hu]; exact h.1,h.2⟩
theorem qi(h:iX [] W E):iX [] W E':=by
 cases W with
 | nil=>trivial
 | cons e W=>exact h.elim
def fL(k v:List Int):Int:=if k.length=0\/64 < k.length then 60 else if 4096 < v.length then 61 else 0
def Ends(w:World)(K D:Nat->Prop)(g:Nat)(E:aE)(W:List aE)(n N:Nat)(r:Value)(e:Ending)(w':World):Prop:=e=.returned r/\∃ K',SA w' K' (fun b=>D b\/w.heap.size<=b) g E W n N/\(∀ b,K' b->K b\/w.heap.size<=b)/\Chg K w w'
theorem SX.kg(h:SX w K D F V g m Q jv T oj n N)(hc:Chg (· = g) w w'):Chg K w w':=hc.mono (fun b _ e=>by have e':b=g:=e; subst e'; exact h.own.top)
theorem AA(h:SA w K D g E W n N)(hk:BK w K kv k)(hv:BK w K vv v)(hn:n<=4000000000000000000)(h0:k.length=0) :
  Calls Tryz.prog 64 #[.pointer (some ⟨g,0,none⟩),kv,vv] w (Ends w K D g E W (n + 1) (N + 2) (.int .i64 60)):=by
 obtain⟨F,V,m,Q,jv,T,oj,hX,hE,hB⟩:=h.open;obtain⟨ao,c,rfl⟩:=hk.shape;obtain⟨bo,d,rfl⟩:=hv.shape;have u:=iq hX hn;have HX:=aB hX;have HE:=aB hE;have HB:=aB hB;generalize k.length=kn at *;generalize v.length=vn at *
 have g0:(kn:Int)=0:=by omega
 clear hX hE hB h hk hv;go_enter Tryz.func64,Tryz.ntmps64;go_wp2_with (go_at_call 95; go_must (refine u.mono ?_); rintro e w1 ⟨rfl,X1,C1⟩);go_ret;exact⟨rfl,K,(X1.shut HE.out HB.out).more (by omega) |>.mono (fun _ _ h=>.inl h),fun b h=>.inl h,HX.out.kg C1⟩
theorem Bb(h:SA w K D g E W n N)(hk:BK w K kv k)(hv:BK w K vv v)(hn:n<=4000000000000000000)(h0:¬ k.length=0)(h1:64 < k.length) :
  Calls Tryz.prog 64 #[.pointer (some ⟨g,0,none⟩),kv,vv] w (Ends w K D g E W (n + 1) (N + 2) (.int .i64 60)):=by
 obtain⟨F,V,m,Q,jv,T,oj,hX,hE,hB⟩:=h.open;obtain⟨ao,c,rfl⟩:=hk.shape;obtain⟨bo,d,rfl⟩:=hv.shape;have u:=iq hX hn;have HX:=aB hX;have HE:=aB hE;have HB:=aB hB;generalize k.length=kn at *;generalize v.length=vn at *
 have g0:((kn:Int)=0)=False:=eq_false (by omega)
 have g1:(64:Int) < kn:=by omega
 clear hX hE hB h hk hv;go_enter Tryz.func64,Tryz.ntmps64;go_wp2_with (go_at_call 95; go_must (refine u.mono ?_); rintro e w1 ⟨rfl,X1,C1⟩);go_ret;exact⟨rfl,K,(X1.shut HE.out HB.out).more (by omega) |>.mono (fun _ _ h=>.inl h),fun b h=>.inl h,HX.out.kg C1⟩
theorem Dj(h:SA w K D g E W n N)(hk:BK w K kv k)(hv:BK w K vv v)(hn:n<=4000000000000000000)(h0:¬ k.length=0)(h1:¬ 64 < k.length)(h2:4096 < v.length) :
  Calls Tryz.prog 64 #[.pointer (some ⟨g,0,none⟩),kv,vv] w (Ends w K D g E W (n + 1) (N + 2) (.int .i64 61)):=by
 obtain⟨F,V,m,Q,jv,T,oj,hX,hE,hB⟩:=h.open;obtain⟨ao,c,rfl⟩:=hk.shape;obtain⟨bo,d,rfl⟩:=hv.shape;have u:=iq hX hn;have HX:=aB hX;have HE:=aB hE;have HB:=aB hB;generalize k.length=kn at *;generalize v.length=vn at *
 have g0:((kn:Int)=0)=False:=eq_false (by omega)
 have g1:((64:Int) < kn)=False:=eq_false (by omega)
 have g2:(4096:Int) < vn:=by omega
 clear hX hE hB h hk hv;go_enter Tryz.func64,Tryz.ntmps64;go_wp2_with (go_at_call 95; go_must (refine u.mono ?_); rintro e w1 ⟨rfl,X1,C1⟩);go_ret;exact⟨rfl,K,(X1.shut HE.out HB.out).more (by omega) |>.mono (fun _ _ h=>.inl h),fun b h=>.inl h,HX.out.kg C1⟩
theorem Dr(hX:SX w K D F V g m Q jv [] oj n N)(hB:iX ([].reverse.map Jr.U) W Q.flatten)(hk:BK w K kv k)(hv:BK w K vv v)(hn:n<=4000000000000000000)(hN:N + 2<=100000000)(h0:¬ k.length=0)(h1:¬ 64 < k.length)(h2:¬ 4096 < v.length) :
  Calls Tryz.prog 64 #[.pointer (some ⟨g,0,none⟩),kv,vv] w (Ends w K D g (put Q.flatten k v) W (n + 1) (N + 2) (.int .i64 0)):=by
 obtain⟨ao,c,rfl⟩:=hk.shape;obtain⟨bo,d,rfl⟩:=hv.shape;have u:=iq hX hn;have HX:=aB hX;have HB:=aB hB;have HK:=aB hk;have HV:=aB hv;have hkl:=aB (show k.length<=64 by omega);have hvl:=aB (show v.length<=4096 by omega);replace hN:N<=99999998:=by omega
 have hN':=hN;replace hN:N<=100000000:=by omega
 have g0:((k.length:Int)=0)=False:=eq_false (by omega)
 have g1:((64:Int) < k.length)=False:=eq_false (by omega)
 have g2:¬ ((4096:Int) < v.length):=by omega
 clear hX hB hk hv;obtain⟨kn,hkn⟩:∃ kn,Hid (k.length=kn):=⟨_,rfl⟩
 obtain⟨vn,hvn⟩:∃ vn,Hid (v.length=vn):=⟨_,rfl⟩
 rw[hkn.out] at g0 g1 HK h0 h1 ⊢;rw[hvn.out] at g2 HV h2 ⊢;go_enter Tryz.func64,Tryz.ntmps64;go_wp2_with first
  | (go_at_call 95; go_must (refine u.mono ?_); rintro e w1 ⟨rfl,X1,C1⟩)
  | (go_at_call 96; go_must (refine(oY X1).mono ?_); rintro e y ⟨rfl,hy⟩; replace hy:=hy.symm; subst hy; have c0:=X1.blk.cell (i:=0) rfl; have us:=EX X1.map (HK.out _ (HX.out.kg C1)) (HV.out _ (HX.out.kg C1)) (by have:=hkl.out; omega) (by have:=hvl.out; omega) (by omega))
  | (go_at_call 97; go_must (refine us.mono ?_); rintro e w3 ⟨rfl,F',M',hF,hC⟩)
 go_ret;have X3:=X1.mapped (N':=N + 1) (by have:=X1.tot; have:=lg X1.map.ord.flat k v; rw[fC X1.map.ord]; omega) M' hF (fun _ h=>.inl h) hC;refine⟨rfl,_,((X3.shut (E:=put Q.flatten k v) (W:=W) (fC X1.map.ord k v) (qi HB.out)).more (by omega)).mono (fun b _ hb => ?_),fun b hb => ?_,?_⟩
 ·rcases hb with hb | hb
  ·exact .inl hb
  ·exact .inr (by have:=C1.size; omega)
 ·rcases hb with⟨hb,_⟩ | hb
  ·exact .inl hb
  ·rcases hF b hb with h1 | h1
   ·exact .inl (X1.own.map b h1)
   ·exact .inr (by have:=C1.size; omega)
 ·exact gv (HX.out.kg C1) (hC.mono (fun b _ h=>X1.own.map b h))
theorem DU(hX:SX w K D F V g m Q jv (T0 ++ [j]) oj n N)(hB:iX ((T0 ++ [j]).reverse.map Jr.U) W Q.flatten)(hk:BK w K kv k)(hv:BK w K vv v)(hn:n<=4000000000000000000)(hN:N + 2<=100000000)(h0:¬ k.length=0)(h1:¬ 64 < k.length)(h2:¬ 4096 < v.length) :
  Calls Tryz.prog 64 #[.pointer (some ⟨g,0,none⟩),kv,vv] w (Ends w K D g (put Q.flatten k v) W (n + 1) (N + 2) (.int .i64 0)):=by
 obtain⟨ao,c,rfl⟩:=hk.shape;obtain⟨bo,d,rfl⟩:=hv.shape;have u:=iq hX hn;have HX:=aB hX;have HB:=aB hB;have HK:=aB hk;have HV:=aB hv;have hkl:=aB (show k.length<=64 by omega);have hvl:=aB (show v.length<=4096 by omega);replace hN:N<=99999998:=by omega
 have hN':=hN;replace hN:N<=100000000:=by omega
 have g0:((k.length:Int)=0)=False:=eq_false (by omega)
 have g1:((64:Int) < k.length)=False:=eq_false (by omega)
 have g2:¬ ((4096:Int) < v.length):=by omega
 clear hX hB hk hv;obtain⟨kn,hkn⟩:∃ kn,Hid (k.length=kn):=⟨_,rfl⟩
 obtain⟨vn,hvn⟩:∃ vn,Hid (v.length=vn):=⟨_,rfl⟩
 rw[hkn.out] at g0 g1 HK h0 h1 ⊢;rw[hvn.out] at g2 HV h2 ⊢;go_enter Tryz.func64,Tryz.ntmps64;go_wp2_with first
  | (go_at_call 95; go_must (refine u.mono ?_); rintro e w1 ⟨rfl,X1,C1⟩)
  | (go_at_call 96; go_must (refine(qW X1 (HK.out _ (HX.out.kg C1)) (by have:=hkl.out; omega) hN).mono ?_); rintro e w2 ⟨rfl,K2,V2,j',hj',X2,hK2,C2⟩; have C3:=gv (HX.out.kg C1) C2; have c0:=X2.blk.cell (i:=0) rfl; have us:=EX X2.map (HK.out _ C3) (HV.out _ C3) (by have:=hkl.out; omega) (by have:=hvl.out; omega) (by omega))
  | (go_at_call 97; go_must (refine us.mono ?_); rintro e w3 ⟨rfl,F',M',hF,hC⟩)
 go_ret;have X3:=X2.mapped (N':=N + 1 + 1) (by have:=X2.tot; have:=lg X2.map.ord.flat k v; rw[fC X2.map.ord]; omega) M' hF (fun _ h=>.inl h) hC;refine⟨rfl,_,((X3.shut (E:=put Q.flatten k v) (W:=W) (fC X2.map.ord k v) (rr HB.out hj' (Cu HX.out.map.ord.flat k v))).more (by omega)).mono (fun b _ hb => ?_),fun b hb => ?_,?_⟩
 ·rcases hb with(hb | hb) | hb
  ·exact .inl hb
  ·exact .inr (by have:=C1.size; omega)
  ·exact .inr (by have:=C3.size; omega)
 ·rcases hb with⟨hb,_⟩ | hb
  ·exact(hK2 b hb).imp id (fun h=>by have:=C1.size; omega)
  ·rcases hF b hb with h1 | h1
   ·exact(hK2 b (X2.own.map b h1)).imp id (fun h=>by have:=C1.size; omega)
   ·exact .inr (by have:=C3.size; omega)
 ·exact C3.trans hC (fun b hb h=>(hK2 b (X2.own.map b h)).elim id (fun h=>by have:=C1.size; omega))
theorem sset(h:SA w K D g E W n N)(c:BK w K kv k)(hv:BK w K vv v)(hn:n<=4000000000000000000)(i:N + 2<=100000000) :
  Calls Tryz.prog 64 #[.pointer (some ⟨g,0,none⟩),kv,vv] w (Ends w K D g (if fL k v=0 then put E k v else E) W (n + 1) (N + 2) (.int .i64 (fL k v))):=by
 by_cases a:k.length=0
 ·have e:fL k v=60:=by unfold fL; rw[if_pos (.inl a)]
  rw[e,if_neg (by decide)]; exact AA h c hv hn a
 ·by_cases d:64 < k.length
  ·have e:fL k v=60:=by unfold fL; rw[if_pos (.inr d)]
   rw[e,if_neg (by decide)]; exact Bb h c hv hn a d
  ·by_cases b:4096 < v.length
   ·have e:fL k v=61:=by unfold fL; rw[if_neg (by omega),if_pos b]
    rw[e,if_neg (by decide)]; exact Dj h c hv hn a d b
   ·have e:fL k v=0:=by unfold fL; rw[if_neg (by omega),if_neg b]
    rw[e,if_pos rfl];obtain⟨F,V,m,Q,p,T,l,hX,rfl,f⟩:=h.open;rcases List.eq_nil_or_concat T with rfl | ⟨o,j,rfl⟩
    ·exact Dr hX f c hv hn i a d b
    ·rw[List.concat_eq_append] at hX f;exact DU hX f c hv hn i a d b
end
end Kv
end
end Go.Proofs.YthfepflplbahkaaGreatDoor
