import Derived.Test.YtpoifdokmjhclaaGreatJyf
import Derived.Shelf.RegionOpen
import Derived.OwnWalkIn
import Derived.LoopNIn
import Derived.LoopIn
set_option maxRecDepth 100000
set_option maxHeartbeats 8000000
namespace Go.Proofs.YtpoifdokmjhclaaGreat
section
namespace Pg
open Go.RowKit Go.Lib
section
variable {a b:Nat}{w:World}{v fv tv:Value}{t f:List Int}{D:Nat->Prop}{P:List (List En)}{F:Nat→Prop}{L:List Pg}
def cut{α:Type}(l:List α)(a b:Nat):List α:=(l.drop a).take (max a b - a)
theorem wR{α:Type}{l:List α}{j:Nat}{x:α}(h:(cut l a b)[j]?=some x):l[a+j]?=some x:=by
 unfold cut at h;rw[List.getElem?_take] at h;split at h
 ·rw[List.getElem?_drop] at h;exact h
 cases h
theorem wN{α:Type}{l:List α}(ha:a<=l.length)(hb:b<=l.length):(cut l a b).length=max a b - a:=by
 unfold cut;rw[List.length_take,List.length_drop];omega
def fe(P:List (List En))(t:List Int):Nat:=if t=[] then P.length else min (pgi P t+1) P.length
def uS(es:List En)(t:List Int):Nat:=if t=[] then es.length else plc (kys es) t
def wth(es:List En)(f t:List Int):List En:=cut es (plc (kys es) f) (uS es t)
def wlk(P:List (List En))(f t:List Int):List En:=(cut P (pgi P f) (fe P t)).flatMap λes=>wth es f t
theorem nW(h:By w v t):Calls Tryz.prog 369 #[v] w λe w'=>e=.returned (.bool (decide (t≠[])))/\w'=w:=by
 obtain⟨i,c,rfl,g,n,j,m,f⟩:=h.ex
 have d:(decide (t≠[]))=decide ((0:Int) < (t.length:Int)):=by
  cases t with
  | nil=>rfl
  | cons a l=>simp
 rw[d];clear h f
 have b:decide ((0:Int) < (t.length:Int))=decide (0 < t.length):=by congr 1;exact propext ⟨λh=>by omega,λh=>by omega⟩
 rw[b];go_enter Tryz.func369,Tryz.ntmps369;go_wp2;go_ret;exact⟨rfl,rfl⟩
structure SpA(w:World)(F:Nat->Prop)(v:Value)(Q:List Pg):Prop where
 ex:∃ ao c,v=.slice ao Q.length c/\Q.length<=c/\c<=9223372036854775807/\∀ j p,Q[j]?=some p->∃ b o,ao=some ⟨b,o,none⟩/\F b/\w.cell? ⟨b,o+j,none⟩=some p.v
structure ESl(w:World)(q:Nat)(v:Value)(es:List En):Prop where
 ex:∃ ao c,v=.slice ao es.length c/\es.length<=c/\c<=9223372036854775807/\∀ j e,es[j]?=some e->∃ o,ao=some ⟨q,o,none⟩/\w.cell? ⟨q,o+j * 2,none⟩=some e.kv/\w.cell? ⟨q,o+j * 2+1,none⟩=some e.vv
theorem vF{p:Pg}(A:PgA w D p)(S:Srt (kys p.es))(hf:By w fv f)(ht:By w tv t)(hn:p.es.length<=1000000) :
  Calls Tryz.prog 350 #[p.v,fv,tv] w λe w'=>∃ v,e=.returned v/\ESl w' p.b v (wth p.es f t)/\BW w w':=by
 have t1:=ib A S hf hn
 have r:∀ w',BW w w'->Calls Tryz.prog 369 #[tv] w' _:=λw' l=>nW (ht.keep l)
 have t2:∀ w',BW w w'->Calls Tryz.prog 152 #[p.v,tv] w' _:=λw' l=>ib (A.keep l) S (ht.keep l) hn
 have i:=A.row;have n:=i.le;simp only[maxLen] at n;have P:=n.1;have O:=n.2;have u:=qq (kys p.es) f;have K:=qq (kys p.es) t
 have B:(kys p.es).length=p.es.length:=by simp[kys]
 rw[B] at u K
 have g:∀ (E:Option Addr) (k c y:Nat) (w':World),uS p.es t=y->y<=p.es.length->BW w w'->k=max (plc (kys p.es) f) y - plc (kys p.es) f->k<=c->c<=9223372036854775807->(k=0\/E=some ⟨p.b,plc (kys p.es) f * 2,none⟩)->ESl w' p.b (.slice E k c) (wth p.es f t):=λE k c y w' he hy l hk J hc M=>by
  have L:(wth p.es f t).length=k:=by
   unfold wth;rw[he,wN u hy,hk]
  refine⟨E,c,by rw[L],by rw[L];exact J,hc,λj e N=>?_⟩;have I:=(List.getElem?_eq_some_iff.1 N).1;rw[L] at I
  have C:=wR (show (cut p.es (plc (kys p.es) f) (uS p.es t))[j]?=some e from N);have hk:=(i.keep l).cell (rB C);have hv:=(i.keep l).cell (lx C);refine⟨plc (kys p.es) f * 2,M.resolve_left (by omega),?_,?_⟩
  ·rw[<- Nat.add_mul];exact hk
  rw[<- Nat.add_mul];exact hv
 have g:Hid _:=g
 have o:Hid (uS p.es t=if t=[] then p.es.length else plc (kys p.es) t):=rfl;generalize hx:plc (kys p.es) f=x at *
 have W:Hid _:=hx;generalize hy:plc (kys p.es) t=y at *
 have V:Hid _:=hy;generalize thr (kys p.es) f=bx at *;generalize thr (kys p.es) t=Q at *
 simp only[Pg.v] at t1 t2 ⊢;generalize hm:p.es.length=m at *
 have T:Hid _:=hm
 have z0:(0:Int)<=(x:Int):=by omega
 have z1:(x:Int)<=(m:Int):=by omega
 clear A S hf ht i n B hx hy hm;by_cases s:t=[]
 ·have z:decide (t≠[])=false:=by simp[s]
  rw[z] at r
  have he:Hid (uS p.es t=m):=by show _=_;rw[o.out,if_pos s]
  clear s z t2 o;go_enter Tryz.func350,Tryz.ntmps350
  go_wp2_with (first
   | (go_at_call 152;refine t1.mono ?_;rintro G F ⟨rfl,d⟩;have q:=r F d;clear t1 r)
   | (go_at_call 369;refine q.mono ?_;rintro G R ⟨rfl,rfl⟩))
  all_goals (
   go_ret
   exact⟨_,rfl,g.out _ _ _ m _ he.out (Nat.le_refl _) d (by omega) (by omega) (by omega) (by first | exact .inr rfl | exact .inl (by omega) | exact .inl rfl),d⟩)
 have z:decide (t≠[])=true:=by simp[s]
 rw[z] at r
 have he:Hid (uS p.es t=y):=by show _=_;rw[o.out,if_neg s]
 have mk:True:=trivial;clear s z o;go_enter Tryz.func350,Tryz.ntmps350
 go_wp2_with (first
  | (go_at_call 152;clear mk;refine t1.mono ?_;rintro G F ⟨rfl,d⟩;have q:=r F d;have t21:=t2 F d;clear t1 r t2)
  | (go_at_call 369;refine q.mono ?_;rintro G R ⟨rfl,rfl⟩)
  | (go_at_call 152;refine t21.mono ?_;rintro G U ⟨rfl,H⟩;have l:=ae d H))
 all_goals (
  go_ret
  exact⟨_,rfl,g.out _ _ _ y _ he.out (by omega) l (by omega) (by omega) (by omega) (by first | exact .inr rfl | exact .inl (by omega) | exact .inl rfl),l⟩)
theorem BP(k:List Int):pgi P k<=P.length:=by
 have h1:=pJ (fks P) k;simp only[fks,List.length_map] at h1;unfold pgi fks;omega
theorem AF{D:Nat→Prop}{g:Nat}(A:bR w F D g L)(O:Ord (ens L))(hf:By w fv f)(ht:By w tv t)(hn:L.length≤100000000) :
    Calls Tryz.prog 349 #[.pointer (some ⟨g,0,none⟩),fv,tv] w λe w'=>∃ v,e=.returned v∧SpA w' F v (cut L (pgi (ens L) f) (fe (ens L) t))∧BW w w':=by
  have t1:=jq A.drew O hf.drew (by omega)
  have H:∀ w',BW w w'→Calls Tryz.prog 369 #[tv] w' _:=λw' z=>nW (ht.keep z)
  have t2:∀ w',BW w w'→Calls Tryz.prog 151 #[.pointer (some ⟨g,0,none⟩),tv] w' _:=λw' z=>jq (A.keep z) O (ht.keep z) (by omega)
  obtain⟨S,c,hc,hc1,hc2,R⟩:= A.rd
  have M:(ens L).length=L.length:=by simp[ens]
  have V:pgi (ens L) f≤L.length:=by rw[← M];exact BP f
  have hl2:pgi (ens L) t≤L.length:=by rw[← M];exact BP t
  have W : ∀ G, S = some ⟨G, 0, none⟩ → F G := λG e => by
    obtain⟨pv,hb,hg,⟨rfl,rfl⟩ | ⟨G',C,rfl,Z,hR⟩⟩:= A.top
    · have:=hb.cell (i:=0) rfl
      rw[hc] at this
      cases this
      cases e
    · have:=hb.cell (i:=0) rfl
      rw[hc] at this
      cases this
      cases e;exact Z
  have q : ∀ (X : Option Addr) (k d y : Nat) (w' : World), fe (ens L) t = y → y ≤ L.length → BW w w' → k = max (pgi (ens L) f) y - pgi (ens L) f → k ≤ d → d ≤ 9223372036854775807 → (k = 0 ∨ ∀ b o, S = some ⟨b, o, none⟩ → X = some ⟨b, o + pgi (ens L) f, none⟩) → SpA w' F (.slice X k d) (cut L (pgi (ens L) f) (fe (ens L) t)) := λX k d y w' he hy z hk hkd Q hbo => by
    have hl:(cut L (pgi (ens L) f) (fe (ens L) t)).length=k:=by rw[he,wN V hy,hk]
    refine⟨X,d,by rw[hl],by rw[hl];exact hkd,Q,λj p hj=>?_⟩;have hjk:=(List.getElem?_eq_some_iff.1 hj).1;rw[hl] at hjk
    have hj':=wR hj;obtain⟨G,rfl,cG⟩:= R _ p hj'
    exact⟨G, 0 + pgi (ens L) f, (hbo.resolve_left (by omega)) G 0 rfl, W G rfl, by
      rw[Nat.zero_add,z.cell (p:=⟨G,pgi (ens L) f+j,none⟩) (aC cG)];exact cG⟩
  have q:Hid _:=q
  have E:Hid (fe (ens L) t=if t=[] then L.length else min (pgi (ens L) t+1) L.length):=by show _=_;unfold fe;rw[M]
  have I:=aC hc
  have R:Hid _:=R
  have U:Hid (S=none∨∃ G,S=some ⟨G,0,none⟩):=by
    obtain⟨pv,hb,hg,⟨rfl,rfl⟩ | ⟨G,C,rfl,Z,hR⟩⟩:= A.top
    · have:=hb.cell (i:=0) rfl
      rw[hc] at this
      cases this;exact .inl rfl
    · have:=hb.cell (i:=0) rfl
      rw[hc] at this
      cases this;exact .inr ⟨G,rfl⟩
  have K:S=none→c=0:=by
    intro e;obtain⟨pv,hb,hg,⟨rfl,rfl⟩ | ⟨G,C,rfl,Z,hR⟩⟩:= A.top
    · have:=hb.cell (i:=0) rfl
      rw[hc] at this
      cases this;rfl
    · have:=hb.cell (i:=0) rfl
      rw[hc] at this
      cases this
      cases e
  generalize hx:pgi (ens L) f=x at *
  have HX:Hid _:=hx;generalize hy:pgi (ens L) t=y at *
  have HY:Hid _:=hy;obtain⟨n,hnn⟩:∃ n,Hid (L.length=n):=⟨_,rfl⟩;rw[hnn.out] at hc hc1 V hl2 hn q E
  have P:w.drew.cell? ⟨g,0,none⟩=some (.slice S n c):=hc
  have z0:(0:Int)≤(x:Int):=by omega
  have z1:(x:Int)≤(n:Int):=by omega
  have zw:IntKind.i64.wrap ((y:Int)+1)=(y:Int)+1:=by rw[IntKind.wrap_i64];omega
  have J:=cT w;have HN:=U.out;clear A O hf ht hx hy M W;by_cases T:t=[]
  · have Q : decide (t ≠ []) = false := by simp[T]
    rw[Q] at H
    have he:Hid (fe (ens L) t=n):=by show _=_;rw[E.out,if_pos T]
    clear T Q t2 E;rcases HN with rfl | ⟨G,rfl⟩
    · obtain rfl:c=0:=K rfl
      obtain rfl:n=0:=by omega
      obtain rfl:x=0:=by omega
      go_enter Tryz.func349,Tryz.ntmps349;go_wp2;go_region_held3 (λw'=>w'.cell? ⟨g,0,none⟩=some (.slice none 0 0)) (assumption)
        (first
          | (go_at_call 151;refine t1.mono ?_;rintro N u ⟨rfl,m⟩;have r:u.cell? ⟨g,0,none⟩=_:=(m.cell (p:=⟨g,0,none⟩) I).trans P;have l:=ae J m))
      have s:=H u l;clear t1 H;go_wp2_with (go_at_call 369;refine s.mono ?_;rintro N w2 ⟨rfl,rfl⟩)
      all_goals (
        go_ret
        exact⟨_,rfl,q.out _ _ _ 0 _ he.out (by omega) l (by omega) (by omega) (by omega) (by first | exact .inl (by omega) | exact .inr (λb o e=>by cases e;simp)),l⟩)
    · clear K
      go_enter Tryz.func349,Tryz.ntmps349;go_wp2;go_region_held3 (λw'=>w'.cell? ⟨g,0,none⟩=some (.slice (some ⟨G,0,none⟩) n c)) (assumption)
        (first
          | (go_at_call 151;refine t1.mono ?_;rintro N u ⟨rfl,m⟩;have r:u.cell? ⟨g,0,none⟩=_:=(m.cell (p:=⟨g,0,none⟩) I).trans P;have l:=ae J m))
      have s:=H u l;clear t1 H;go_wp2_with (go_at_call 369;refine s.mono ?_;rintro N w2 ⟨rfl,rfl⟩)
      all_goals (
        go_ret
        exact⟨_,rfl,q.out _ _ _ n _ he.out (by omega) l (by omega) (by omega) (by omega) (by first | exact .inl (by omega) | exact .inr (λb o e=>by cases e;simp)),l⟩)
  · have Q : decide (t ≠ []) = true := by simp[T]
    rw[Q] at H
    have he:Hid (fe (ens L) t=min (y+1) n):=by show _=_;rw[E.out,if_neg T]
    clear T Q E;rcases HN with rfl | ⟨G,rfl⟩
    · obtain rfl:c=0:=K rfl
      obtain rfl:n=0:=by omega
      obtain rfl:x=0:=by omega
      go_enter Tryz.func349,Tryz.ntmps349;go_wp2;go_region_held3 (λw'=>w'.cell? ⟨g,0,none⟩=some (.slice none 0 0)) (assumption)
        (first
          | (go_at_call 151;refine t1.mono ?_;rintro N u ⟨rfl,m⟩;have r:u.cell? ⟨g,0,none⟩=_:=(m.cell (p:=⟨g,0,none⟩) I).trans P;have l:=ae J m))
      have s:=H u l;have t21:=t2 u l;clear t1 H t2
      go_wp2_with (first
        | (go_at_call 369;refine s.mono ?_;rintro N w2 ⟨rfl,rfl⟩)
        | (go_at_call 151;refine t21.mono ?_;rintro N w3 ⟨rfl,B⟩;have Y:w3.cell? ⟨g,0,none⟩=_:=(B.cell (p:=⟨g,0,none⟩) (aC r)).trans r;have z:=ae l B))
      all_goals (
        go_ret
        exact⟨_,rfl,q.out _ _ _ (min (y+1) 0) _ he.out (by omega) z (by omega) (by omega) (by omega) (by first | exact .inl (by omega) | exact .inr (λb o e=>by cases e;simp)),z⟩)
    · clear K
      go_enter Tryz.func349,Tryz.ntmps349;go_wp2;go_region_held3 (λw'=>w'.cell? ⟨g,0,none⟩=some (.slice (some ⟨G,0,none⟩) n c)) (assumption)
        (first
          | (go_at_call 151;refine t1.mono ?_;rintro N u ⟨rfl,m⟩;have r:u.cell? ⟨g,0,none⟩=_:=(m.cell (p:=⟨g,0,none⟩) I).trans P;have l:=ae J m))
      have s:=H u l;have t21:=t2 u l;clear t1 H t2
      go_wp2_with (first
        | (go_at_call 369;refine s.mono ?_;rintro N w2 ⟨rfl,rfl⟩)
        | (go_at_call 151;refine t21.mono ?_;rintro N w3 ⟨rfl,B⟩;have Y:w3.cell? ⟨g,0,none⟩=_:=(B.cell (p:=⟨g,0,none⟩) (aC r)).trans r;have z:=ae l B))
      all_goals (
        go_ret
        exact⟨_,rfl,q.out _ _ _ (min (y+1) n) _ he.out (by omega) z (by omega) (by omega) (by omega) (by first | exact .inl (by omega) | exact .inr (λb o e=>by cases e;simp)),z⟩)
end
end Pg
end
section
namespace Pg
open Go.RowKit Go.Lib
attribute [local go_sem] Oper.semAt_some
section
variable {D X F:Nat->Prop}{v fv tv:Value}{l f t:List Int}{g bm bf bt:Nat}{L:List Pg}{W0:World}
theorem OB.chg{w w':World}(h:OB w D v l)(hc:Chg X w w')(hX:∀ b,X b->∀ cs,¬ Blk w b cs 5):OB w' D v l:=by
 refine⟨h.oct,h.ex.imp id ?_⟩;rintro⟨b,c,e,d,a⟩;obtain⟨cs,k⟩:=a.kind;exact⟨b,c,e,d,a.chg hc λx=>hX b x cs k⟩
structure Wk(W:World)(X F D:Nat->Prop)(g:Nat)(L:List Pg)(bm bf bt:Nat)(fv tv:Value)(f t:List Int):Prop where
 map:bR W F D g L
 ord:Ord (ens L)
 few:∀ es∈ens L,es.length<=32
 big:L.length<=100000000
 xF:∀ b,X b->¬ F b
 xU:∀ b,X b->∀ cs,¬ Blk W b cs 5
 boxm:Blk W bm [.pointer (some ⟨g,0,none⟩)] 144/\¬ X bm
 boxf:Blk W bf [fv] 29/\¬ X bf
 boxt:Blk W bt [tv] 29/\¬ X bt
 byf:∃ Df,OB W Df fv f
 byt:∃ Dt,OB W Dt tv t
theorem Wk.at{W V:World}(h:Wk W X F D g L bm bf bt fv tv f t)(hc:Chg X W V):bR V F D g L/\By V fv f/\By V tv t/\V.cell? ⟨bm,0,none⟩=some (.pointer (some ⟨g,0,none⟩))/\V.cell? ⟨bf,0,none⟩=some fv/\V.cell? ⟨bt,0,none⟩=some tv:=by
 obtain⟨b,hf⟩:=h.byf;obtain⟨c,a⟩:=h.byt;exact⟨h.map.chg hc h.xF h.xU,(hf.chg hc h.xU).by,(a.chg hc h.xU).by,(h.boxm.1.chg hc h.boxm.2).cell (i:=0) rfl,(h.boxf.1.chg hc h.boxf.2).cell (i:=0) rfl,(h.boxt.1.chg hc h.boxt.2).cell (i:=0) rfl⟩
theorem mg{α:Type}{l:List α}{a b:Nat}{x:α}(h:x∈cut l a b):x∈l:=List.mem_of_mem_drop (List.mem_of_mem_take h)
theorem kD{α β:Type}(l:List α)(f:α->List β)(k:Nat)(x:α)(h:l[k]?=some x):(l.take (k+1)).flatMap f=(l.take k).flatMap f ++ f x:=by
 rw[List.take_add_one,h];simp
theorem uB{α β:Type}(l:List α)(f:α->List β)(k j:Nat)(x:α)(y:β)(h:l[k]?=some x)(a:(f x)[j]?=some y):(l.flatMap f)[((l.take k).flatMap f).length+j]?=some y:=by
 have hk:=(List.getElem?_eq_some_iff.1 h).1
 have e:l.flatMap f=(l.take k).flatMap f ++ (f x ++ (l.drop (k+1)).flatMap f):=by
  conv=>lhs;rw[<- List.take_append_drop (k+1) l,List.flatMap_append,kD l f k x h]
  rw[List.append_assoc]
 rw[e,List.getElem?_append_right (by omega),Nat.add_sub_cancel_left,List.getElem?_append_left (List.getElem?_eq_some_iff.1 a).1];exact a
theorem uw{Tp:TypeId->Prop}(K:Wk W0 X F D g L bm bf bt fv tv f t) :
  Itr Tp 348 #[.pointer (some ⟨bm,0,none⟩),.pointer (some ⟨bf,0,none⟩),.pointer (some ⟨bt,0,none⟩)] (wlk (ens L) f t).length (λi args _ _=>∃ e,(wlk (ens L) f t)[i]?=some e/\args=#[.agg #[e.kv,e.vv]]) (λV=>Chg X W0 V):=by
 intro l J Jx W hJ hJx q hY h0;obtain⟨Am,hf,ht,cm,cf,ct⟩:=K.at (q 0 W h0);have tS:=AF Am K.ord hf ht K.big;obtain⟨Q,hQ⟩:∃ Q,Hid (cut L (pgi (ens L) f) (fe (ens L) t)=Q):=⟨_,rfl⟩
 rw[hQ.out] at tS
 have hQe:Hid (wlk (ens L) f t=(ens Q).flatMap λes=>wth es f t):=by
  show _=_
  rw[<- hQ.out];unfold wlk cut ens;rw[List.map_take,List.map_drop]
 have hQm:∀ p∈Q,p∈L:=λp hp=>by rw[<- hQ.out] at hp;exact List.mem_of_mem_drop (List.mem_of_mem_take hp)
 obtain⟨E,hE⟩:∃ E,Hid (wlk (ens L) f t=E):=⟨_,rfl⟩
 rw[hE.out] at hY ⊢
 have C:Hid (E=(ens Q).flatMap λes=>wth es f t):=by show _=_;rw[<- hE.out];exact hQe.out
 refine(callsIn_wide (n:=0)).1 ?_
 refine callsIn_of_wp Tryz.func348 rfl trivial ?_ rfl;simp only[Tryz.ntmps348,List.size_toArray,List.length_cons,List.length_nil,Nat.reduceAdd,Nat.reduceSub,Array.replicate_succ,Array.replicate_zero,List.push_toArray,List.append_toArray,List.nil_append,List.cons_append];gi_wp2_with (refine⟨trivial,rfl,?_⟩;gi_at_call 349;refine(callsIn_wide.2 tS).mono ?_;rintro e' w1 ⟨v1,rfl,hSp,hB1⟩;obtain⟨ao,cc,rfl,hc1,hc2,ac⟩:=hSp.ex);have J1:=hJ 0 _ _ h0 (Rec.of hB1);clear tS h0 cm cf ct hf ht hSp
 have ac:Hid _:=ac
 have hWl:W.heap.size<=w1.heap.size:=hB1.size
 have hCw:Hid (Chg X W0 w1):=q 0 _ J1;obtain⟨n,hnn⟩:∃ n,Hid (Q.length=n):=⟨_,rfl⟩
 rw[hnn.out] at hc1 ⊢
 have H:∀ b,F b->b < W0.heap.size/\¬ X b:=λb hb=>⟨K.map.lt hb,λx=>K.xF b x hb⟩
 have R:Hid (∀ j p,Q[j]? = some p->∀ V,Chg X W0 V->∃ b o,ao=some ⟨b,o,none⟩/\V.cell? ⟨b,o + j,none⟩=some p.v):=λj p hj V hV=>by
  obtain⟨b,o,e,hF,hc⟩:=ac.out j p hj;obtain⟨I,h2⟩:=H b hF;refine⟨b,o,e,?_⟩;rw[World.cell?_of_block (w:=W0) (a:=⟨b,o+j,none⟩) (hV.same b I h2),<- World.cell?_of_block (w:=W0) (w':=w1) (a:=⟨b,o+j,none⟩) (hCw.out.same b I h2)];exact hc
 gi_loopw [14] (λT wr=>∃ a:Nat,a<=n/\T=.int .i64 a/\W.heap.size<=wr.heap.size/\J ((((ens Q).take a).flatMap λes=>wth es f t).length) wr) (λT _=>n - (intOf T).toNat)
 case atStart=>exact⟨0,Nat.zero_le _,rfl,hWl,J1⟩
 case round =>
  clear J1 hWl;obtain⟨a,ha,rfl,hsz,s⟩:=hrel;by_cases hlt:a < n
  ·obtain⟨p,hp⟩:∃ p,Q[a]?=some p:=⟨Q[a]'(by have:=hnn.out;omega),List.getElem?_eq_getElem _⟩
   obtain⟨b,o,rfl,cP⟩:=R.out a p hp wr (q _ _ s);obtain⟨Ap,hf,ht,cm,cf,ct⟩:=K.at (q _ _ s);have y:=hQm p (List.mem_of_getElem? hp)
   have hpL:p.es∈ens L:=List.mem_map.2 ⟨p,y,rfl⟩;have hps:=K.few _ hpL;obtain⟨pj,hpj⟩:=List.getElem?_of_mem hpL;have tW:=vF (Ap.cM p y).1 (K.ord.page hpj) hf ht (by omega)
   have z1:(a:Int) < n:=by omega
   simp only[Pg.v] at cP tW;gi_wp2_with (refine⟨trivial,rfl,?_⟩;gi_at_call 350;refine(callsIn_wide.2 tW).mono ?_;rintro e' w2 ⟨v2,rfl,hEs,S⟩;obtain⟨ao2,cc2,rfl,hd1,hd2,d⟩:=hEs.ex);have J2:=hJ _ _ _ s (Rec.of S)
   have G:W.heap.size<=w2.heap.size:=Nat.le_trans hsz S.size
   have d:Hid _:=d
   have hCw2:Hid (Chg X W0 w2):=q _ _ J2;have hpF:=(K.map.cM p y).2;obtain⟨es,B⟩:∃ es,Hid (wth p.es f t=es):=⟨_,rfl⟩
   rw[B.out] at hd1 d ⊢;obtain⟨m,ab⟩:∃ m,Hid (es.length=m):=⟨_,rfl⟩
   rw[ab.out] at hd1 ⊢;obtain⟨P,M⟩:∃ P,Hid ((((ens Q).take a).flatMap λes=>wth es f t).length=P):=⟨_,rfl⟩
   rw[M.out] at J2
   have A:Hid (∀ j e,es[j]? = some e->∀ V,Chg X W0 V->∃ o,ao2=some ⟨p.b,o,none⟩/\V.cell? ⟨p.b,o + j * 2,none⟩=some e.kv/\V.cell? ⟨p.b,o + j * 2 + 1,none⟩=some e.vv):=λj e hj V hV=>by
    obtain⟨o,e',hk,hv⟩:=d.out j e hj;obtain⟨I,h2⟩:=H p.b hpF
    have e1:V.heap[p.b]?=w2.heap[p.b]?:=(hV.same p.b I h2).trans (hCw2.out.same p.b I h2).symm;exact⟨o,e',by rw[World.cell?_of_block (w:=w2) (a:=⟨p.b,o+j * 2,none⟩) e1];exact hk,by rw[World.cell?_of_block (w:=w2) (a:=⟨p.b,o+j * 2+1,none⟩) e1];exact hv⟩
   have hEat:Hid (∀ j e,es[j]? = some e->E[P + j]? = some e):=λj e hj=>by
    rw[C.out,<- M.out];exact uB (ens Q) (λes=>wth es f t) a j p.es e (rF hp) (by rw[B.out];exact hj)
   clear hEs cm cf ct hf ht tW d S cP;gi_loopw [23] (λT z=>∃ c:Nat,c<=m/\T=.int .i64 c/\W.heap.size<=z.heap.size/\J (P+c) z) (λT _=>m - (intOf T).toNat)
   case atStart=>exact⟨0,Nat.zero_le _,rfl,G,J2⟩
   case round =>
    clear J2 G;rename World=>z
    obtain⟨c,hc,rfl,r,u⟩:=hrel;by_cases hltc:c < m
    ·obtain⟨e,he⟩:∃ e,es[c]?=some e:=⟨es[c]'(by have:=ab.out;omega),List.getElem?_eq_getElem _⟩
     obtain⟨o2,rfl,ck,cv⟩:=A.out c e he z (q _ _ u)
     have z2:(c:Int) < m:=by omega
     have hem:e∈p.es:=by
      have I:=List.mem_of_getElem? he;rw[<- B.out] at I;exact mg I
     have N:=((K.at (q _ _ u)).1.cM p y).1.fa e hem;have hEi:=hEat.out c e he
     have hbE:P+c < E.length:=(List.getElem?_eq_some_iff.1 hEi).1;obtain⟨ekv,O,evv,ad⟩:=e;obtain⟨ak,nk,hk1⟩:=N.k.shape;obtain⟨av,nv,hv1⟩:=N.v.shape;simp only at hk1 hv1;subst hk1 hv1;have B3:=ay z [.slice ak O.length nk,.slice av ad.length nv] 197;have U:=aa z (.cells #[.slice ak O.length nk,.slice av ad.length nv] 197);have k3:=B3.cell (i:=0) rfl;have v3:=B3.cell (i:=1) rfl;obtain⟨fn,tmps,assign,body,hy,hR⟩:=hY (P+c) #[.agg #[.slice ak O.length nk,.slice av ad.length nv]] z _ hbE u r U ⟨_,hEi,rfl⟩;have hs3:=U.size;clear N B3 U he hem hEi;gi_wp2;refine⟨rfl,hR.mono ?_⟩;rintro e' W4 ⟨hk4,⟨rfl,Z⟩ | ⟨rfl,Z⟩⟩
     ·gi_wp2;go_roundw
      case rel=>exact⟨c+1,by omega,by go_num,Nat.le_trans (Nat.le_trans r hs3) hk4.size,Z⟩
      case measure=>simp[intOf];omega
     gi_wp2;refine bodyPost_ret (results_none rfl _ _ _) rfl ?_
     exact⟨⟨_,rfl⟩,Nat.le_trans (Nat.le_trans r hs3) hk4.size,.inr ⟨P+c,hbE,Z⟩⟩
    have Y:c=m:=by omega
    have HJ:Hid (J ((((ens Q).take (a+1)).flatMap λes=>wth es f t).length) z):=by
     show J _ z
     rw[kD (ens Q) (λes=>wth es f t) a p.es (rF hp),List.length_append,M.out,B.out,ab.out,<- Y];exact u
    have z2:¬ ((c:Int) < m):=by omega
    have HC:Hid _:=Y;clear Y u;gi_wp2;go_roundw
    case rel=>exact⟨a+1,by omega,by go_num,r,HJ.out⟩
    case measure=>simp[intOf];omega
  have han:a=n:=by omega
  have HJ:Hid (J E.length wr):=by
   show J _ wr
   have:(ens Q).take a=ens Q:=List.take_of_length_le (by simp[ens];have:=hnn.out;omega);rw[this,<- C.out] at s;exact s
  have z1:¬ ((a:Int) < n):=by omega
  have HA:Hid _:=han;clear han s;gi_wp2;go_end0;exact⟨⟨_,rfl⟩,hsz,.inl HJ.out⟩
end
end Pg
end
section
namespace Pg
open Go.RowKit Go.Lib
section
variable {F:Fence} {n:Nat} {P:Program} {ops:Array Oper} {Q:Exit->Act->World->Prop} {md:Region.Mode} {S:World->Prop}
section
variable {j i:Nat}{o oi:Oper}{v:Value}{a:Act}{K:Act->World->Prop}{w:World}
def inH(F:Fence)(n:Nat)(P:Program)(md:Region.Mode)(ops:Array Oper)(Q:Exit->Act->World->Prop)(S:World->Prop):Nat->Array Bool->Act->World->Prop
 | 0,listed,a,w=>Region.ready md ops listed=[]/\Q .normal a w
 | fuel + 1,listed,a,w =>
  (Region.ready md ops listed=[]->Q .normal a w) /\
  ∀ i∈Region.ready md ops listed,wpOpIn F n P ops Q i (λa' w'=>S w'/\inH F n P md ops Q S fuel (listed.setIfInBounds i true) a' w') a w
theorem om:∀ (fuel:Nat) (listed:Array Bool) (a:Act) (w:World),inH F n P md ops Q S fuel listed a w->wpAnyIn F n P md ops Q fuel listed a w
 | 0,_,_,_,h=>h
 | fuel+1,_,_,_,h=>⟨h.1,λi hi=>wpOpIn_mono (λa' w' h'=>om fuel _ a' w' h'.2) (h.2 i hi)⟩
def qZ(ops:Array Oper):Bool:=ops.all λo=>match o.op with | .defer _=>false | .select ..=>false | _=>true
theorem j8(h:qZ ops=true)(d:ops[j]?=some o):(∀ c,o.op≠.defer c)/\(∀ cs b,o.op≠.select cs b):=by
 unfold qZ at h;rw[Array.all_eq_true] at h;obtain⟨a,rfl⟩:=Array.getElem?_eq_some_iff.1 d;have:=h j a;refine⟨λc e=>?_,λcs b e=>?_⟩
 ·rw[e] at this;simp at this
 rw[e] at this;simp at this
theorem pE(hF:∀ f,F.fn f)(ht:qZ ops=true)(hi:ops[i]?=some o)(hy:YieldsIf P ops S o v a)(hS:S w)(h:K (a.put o.dst v) w):wpOpIn F n P ops Q i K a w:=by
 unfold wpOpIn;simp only[hi];rcases hy with⟨hw,hv⟩ | ⟨hw,rfl⟩
 ·simp only[hw,if_true,Oper.wpIn,Oper.semAt_eq F.round a.eval o (j8 ht hi).1,hv w hS,Oper.uponIn];exact⟨λf _=>hF f,h⟩
 simp only[hw,Bool.false_eq_true,if_false];exact⟨λf _=>hF f,h⟩
theorem put_in{g:Oper}(hF:∀ f,F.fn f)(ht:qZ ops=true)(t:ops[j]?=some g)(o:oi.apart ops g=true)(p:∀ cs b,oi.op≠.select cs b)(hQ:∀ c a w,Q (.panic c) (a.put oi.dst v) w->Q (.panic c) a w)(hy:YieldsIf P ops S oi v a)(h:wpOpIn F n P ops Q j K (a.put oi.dst v) w) :
  wpOpIn F n P ops Q j (λa' w'=>YieldsIf P ops S oi v a'/\K (a'.put oi.dst v) w') a w:=by
 obtain⟨z,i,s⟩:=Oper.apart_spec o;obtain⟨y,q⟩:=j8 ht t
 have keep:∀ (a:Act),YieldsIf P ops S oi v a->∀ u,YieldsIf P ops S oi v (a.put g.dst u):=λa hy u =>
  hy.of_same (execOp_put oi p a g.dst u s) (wanted_put oi a g.dst u s)
 have k:∀ d,YieldsIf P ops S oi v { a with defers:=d :: a.defers }:=λd=>hy.of_same rfl rfl
 unfold wpOpIn at *;simp only[t] at *;rw[wanted_put g a oi.dst v z] at h;split
 ·rename_i hw;simp only[hw,if_true] at h;unfold Oper.wpIn at *;refine⟨λf _=>hF f,?_⟩;have h:=h.2;rw[Oper.semAt_eq _ _ _ y,execOp_put g q a oi.dst v z] at h;rw[Oper.semAt_eq _ _ _ y];generalize (execOp a.eval g).run P w=r at *
  cases r with
  | ok x w' =>
   cases x<;>simp only[Oper.uponIn] at h ⊢
   case value u=>exact⟨keep a hy u,by rw[<- Act.put_comm a v u i];exact h⟩
   case skip=>exact⟨keep a hy _,by rw[<- Act.put_comm a v undef i];exact h⟩
   case defer d =>
    refine⟨keep _ (k d) _,?_⟩;rw[<- Act.put_comm _ v undef i,<- Act.put_defers];exact h
   case enter f args =>
    refine⟨h.1,CallsIn.mono h.2 λe m he=>?_⟩
    cases e with
    | returned u=>exact⟨keep a hy u,by rw[<- Act.put_comm a v u i];exact he⟩
    | panicked c=>exact hQ _ _ _ he
    | outgrown=>exact he
   case row row args=>exact⟨h.1,RowsIn.mono h.2 λu m he=>⟨keep a hy u,by rw[<- Act.put_comm a v u i];exact he⟩⟩
   case round l f tmps assign body =>
    refine⟨h.1,RoundIn.mono h.2 λe m he=>?_⟩
    cases e with
    | returned u=>exact⟨keep a hy u,by rw[<- Act.put_comm a v u i];exact he⟩
    | panicked c=>exact hQ _ _ _ he
    | outgrown=>exact he
  | halt x w' =>
   cases x<;>simp only[Oper.uponIn] at h ⊢
   case panic u=>exact hQ _ _ _ h
 rename_i hw;simp only[hw] at h;exact⟨λf _=>hF f,keep a hy _,by rw[<- Act.put_comm a v undef i];exact h.2⟩
theorem yk(hF:∀ f,F.fn f)(ht:qZ ops=true)(hi:ops[i]?=some oi)(hQ:∀ c a w,Q (.panic c) (a.put oi.dst v) w->Q (.panic c) a w) :
  ∀ (fuel:Nat) (listed:Array Bool) (a:Act) (w:World),
   (∀ j oj,ops[j]?=some oj->j≠i->listed.getD j true=false->(∀ e∈oj.after,Region.binds md e=true->e.on≠i)->oi.apart ops oj=true) ->
   i∈Region.ready md ops listed->YieldsIf P ops S oi v a->S w ->
   inH F n P md ops Q S fuel (listed.setIfInBounds i true) (a.put oi.dst v) w->inH F n P md ops Q S (fuel+1) listed a w:=by
 intro fuel
 induction fuel with
 | zero =>
  intro listed a w _ o hy hS H;refine⟨λh=>(by rw[h] at o;cases o),λj x=>?_⟩;by_cases b:j=i
  ·subst b;exact pE hF ht hi hy hS ⟨hS,H⟩
  have:=ready_mono x b;rw[H.1] at this
  cases this
 | succ fuel ih =>
  intro listed a w d o hy hS H;refine⟨λh=>(by rw[h] at o;cases o),λj x=>?_⟩;by_cases b:j=i
  ·subst b;exact pE hF ht hi hy hS ⟨hS,H⟩
  have m:=H.2 j (ready_mono x b);obtain⟨l,oj,r,t⟩:=mem_ready.1 x
  have p:∀ e∈oj.after,Region.binds md e=true->e.on≠i:=λe he hb heq=>by
   have m:=t e he hb;have B:=(mem_ready.1 o).1;rw[heq] at m;rcases Nat.lt_or_ge i listed.size with y | y
   ·simp[y] at B m;rw[B] at m;cases m
   simp[Array.getElem?_eq_none y] at m
  have C:=put_in hF ht r (d j oj r b l p) (j8 ht hi).2 hQ hy m
  have g:∀ k ok,ops[k]?=some ok->k≠i->(listed.setIfInBounds j true).getD k true=false ->
    (∀ e∈ok.after,Region.binds md e=true->e.on≠i)->oi.apart ops ok=true:=λk ok hk A s z=>by
   refine d k ok hk A ?_ z;by_cases q:j=k
   ·subst q;exact l
   rw[getD_set_ne true q] at s;exact s
  refine wpOpIn_mono (λD E u=>⟨u.2.1,ih (listed.setIfInBounds j true) D E g (ready_mono o (Ne.symm b)) u.1 u.2.1 ?_⟩) C;rw[Array.setIfInBounds_comm _ _ b];exact u.2.2
end
end
section
variable {ops:Array Oper} {Q:Exit->Act->World->Prop} {S:World->Prop} {fuel:Nat} {listed:Array Bool} {a:Act} {w:World} {l n:Nat}
section
variable {Qc:Ending→World→Prop}{R:Ending->World->Prop}
theorem Bi{id:Nat}(hm:Tryz.prog.follows .mixedOrders=true)(h:inH (Fence.wide.inRound l) n Tryz.prog .any ops Q S ops.size (Array.replicate ops.size false) a w.drew):(Code.region id ops true).wpIn (Fence.wide.inRound l) n Tryz.prog Q a w :=
 wpIn_region_any hm (om _ _ _ _ h)
theorem jS(i:Nat)(d:Option Tmp)(v:Value)(hS:S w)(h:inH (Fence.wide.inRound l) n Tryz.prog .any ops Q S fuel (listed.setIfInBounds i true) (a.put d v) w)(ht:qZ ops=true:=by kernel_rfl)(hc:lY ops listed a i d=true:=by kernel_rfl)(hy:∀ w',S w'->(execOp a.eval (ops.getD i default)).run Tryz.prog w'=.ok (.value v) w':=by intro _ _;kernel_rfl)(hQ:∀ c a w,Q (.panic c) (a.put d v) w->Q (.panic c) a w:=by exact λ_ _ _ h=>h):inH (Fence.wide.inRound l) n Tryz.prog .any ops Q S (fuel+1) listed a w:=by
 simp only[lY,Bool.and_eq_true,decide_eq_true_eq] at hc;obtain⟨⟨⟨⟨⟨_,e⟩,g⟩,b⟩,f⟩,j⟩:=hc;subst j;exact yk (λ_=>trivial) ht (cC b) hQ fuel listed a w (Region.free_spec (cC b) e) (by simpa using g) (.inl ⟨f,hy⟩) hS h
theorem rH(i:Nat)(d:Option Tmp)(v:Value)(T:TypeId)(k g o:Nat)(e:∀ w',S w'->(loadVar T ⟨g,o,none⟩).run Tryz.prog w'=.ok v w')(hS:S w)(h:inH (Fence.wide.inRound l) n Tryz.prog .any ops Q S fuel (listed.setIfInBounds i true) (a.put d v) w)(ht:qZ ops=true:=by kernel_rfl)(hc:lY ops listed a i d=true:=by kernel_rfl)(ho:(ops.getD i default).op=.load T (.tmp k):=by kernel_rfl)(hp:a.eval (.tmp k)=.pointer (some ⟨g,o,none⟩):=by kernel_rfl)(hQ:∀ c a w,Q (.panic c) (a.put d v) w->Q (.panic c) a w:=by exact λ_ _ _ h=>h):inH (Fence.wide.inRound l) n Tryz.prog .any ops Q S (fuel+1) listed a w :=
 jS i d v hS h (ht:=ht) (hc:=hc) (hy:=λw' b=>ji k (e w' b) (ho:=ho) (hp:=hp)) (hQ:=hQ)
theorem xd(i:Nat)(d:Option Tmp)(f:FuncId)(args:Array Value)(b:CP f args w Qc)(hk:∀ e w',Qc e w'→∃ v,e=.returned v∧S w'∧inH (Fence.wide.inRound l) n Tryz.prog .any ops Q S fuel (listed.setIfInBounds i true) (a.put d v) w')(ht:qZ ops=true:=by kernel_rfl)(hc:lM ops listed a i d=true:=by kernel_rfl)(hrun:(execOp a.eval (ops.getD i default)).run Tryz.prog w=.ok (.enter f args) w:=by kernel_rfl) :
    inH (Fence.wide.inRound l) n Tryz.prog .any ops Q S (fuel+1) listed a w:=by
  simp only[lM,Bool.and_eq_true,decide_eq_true_eq] at hc;obtain⟨⟨⟨k,g⟩,p⟩,q⟩:= hc;subst q;refine⟨λo=>absurd (k ▸ o) (by simp),λj m=>?_⟩;rw[k] at m;obtain rfl:j=i:=by simpa using m
  unfold wpOpIn;rw[cC g];simp only[p,if_true,Oper.wpIn];refine⟨λ_ _=>trivial,?_⟩;rw[Oper.semAt_eq _ _ _ (j8 ht (cC g)).1,hrun];refine⟨λh=>(by cases h),CallsIn.inRound l (callsIn_wide.2 (b.mono λe w' he=>?_))⟩;obtain⟨v,rfl,c,hw⟩:= hk e w' he;exact⟨c,hw⟩
theorem Al(i:Nat)(d:Option Tmp)(f:Nat)(args:Array Value)(ht:qZ ops=true)(hc:lM ops listed a i d=true)(hrun:(execOp a.eval (ops.getD i default)).run Tryz.prog w=(Instr.yield f args).run Tryz.prog w)(hy:YieldAt Fence.wide 0 Tryz.prog f args w R)(hk:∀ e w',R e w'->∃ v,e=.returned v/\S w'/\inH (Fence.wide.inRound l) n Tryz.prog .any ops Q S fuel (listed.setIfInBounds i true) (a.put d v) w') :
  inH (Fence.wide.inRound l) n Tryz.prog .any ops Q S (fuel+1) listed a w:=by
 simp only[lM,Bool.and_eq_true,decide_eq_true_eq] at hc;obtain⟨⟨⟨m,k⟩,r⟩,s⟩:=hc;subst s;obtain⟨fn,tmps,assign,body,hy,p⟩:=hy;refine⟨λq=>absurd (m▸q) (by simp),λj o=>?_⟩;rw[m] at o;obtain rfl:j=i:=by simpa using o
 unfold wpOpIn;rw[cC k];simp only[r,if_true,Oper.wpIn];refine⟨λ_ _=>trivial,?_⟩;rw[Oper.semAt_eq _ _ _ (j8 ht (cC k)).1,hrun,hy]
 have g:RoundIn (Fence.wide.inRound l) (n - 1) Tryz.prog f fn tmps assign body w R:=⟨p.1,λc cs _=>p.2 c cs (λ_ h=>by cases h)⟩
 refine⟨λh=>(by cases h),g.mono λe w' he=>?_⟩;obtain⟨v,rfl,b,hw⟩:=hk e w' he;exact⟨b,hw⟩
theorem wA(hr:Region.ready .any ops listed=[])(h:Q .normal a w):inH (Fence.wide.inRound l) n Tryz.prog .any ops Q S fuel listed a w:=by
 cases fuel with
 | zero=>exact⟨hr,h⟩
 | succ k=>exact⟨λ_=>h,by rw[hr];simp⟩
end
end
end Pg
end
section
namespace Pg
open Go.RowKit Go.Lib
attribute [local go_sem] Oper.semAt_some
section
variable {W W' w:World}{D:Nat->Prop}{v:Value}{l:List Int}{E:List En}{args lb:Array Value}{g:Nat}{cs:List Value}{Rd:World→Prop}
def ArC(E:List En)(i:Nat)(args:Array Value)(n:Nat)(V:World):Prop :=
 ∃ e kv vv s,E[i]?=some e/\args=#[kv,vv]/\OB V (λb=>n<=b/\b < s) kv e.kl/\OB V (s <= ·) vv e.vl/\n<=s
def ArE(E:List En)(i:Nat)(args:Array Value)(_:Nat)(_:World):Prop:=∃ e,E[i]?=some e/\args=#[.agg #[e.kv,e.vv]]
theorem OB.cel(h:OB W D v l)(hc:Cel W W'):OB W' D v l:=by
 refine⟨h.oct,h.ex.imp id ?_⟩;rintro⟨b,c,e,hd,hR⟩;obtain⟨cs,k⟩:=hR.kind;exact⟨b,c,e,hd,hR.same ((hc.same b _ k.blk rfl).trans k.blk.symm)⟩
theorem ArC.cel{i:Nat}{n:Nat}{V:World}(h:ArC E i args n V)(hc:Cel V W):ArC E i args n W:=by
 obtain⟨e,kv,vv,s,h1,h2,h3,h4,h5⟩:=h;exact⟨e,kv,vv,s,h1,h2,h3.cel hc,h4.cel hc,h5⟩
theorem qA(c:Blk w g [v] 38):(loadVar 38 ⟨g,0,none⟩).run Tryz.prog w=.ok v w:=by
 have c:=c.cell (i:=0) rfl;go_simp
theorem ld_b{o:Nat}(c:w.cell? ⟨g,o,none⟩=some v):(loadVar 29 ⟨g,o,none⟩).run Tryz.prog w=.ok v w:=by go_simp
theorem OB.lt'(h:OB w D v l):OB w (λb=>D b/\b < w.heap.size) v l:=by
 refine⟨h.oct,h.ex.imp id ?_⟩;rintro⟨b,c,e,hd,hR⟩;exact⟨b,c,e,⟨hd,hR.lt⟩,hR⟩
theorem FY{a:Act}{o:Oper}{f x y l:Nat}{t1 t2:TypeId}{u:Value}(ho:o.op=.call { callee:=.value (.tmp f),args:=#[.tmp x,.tmp y],argTypes:=#[t1,t2] })(hf:a.eval (.tmp f)=.func (.yield l) #[] #[])(hx:a.eval (.tmp x)=u)(hy:a.eval (.tmp y)=v) :
  (execOp a.eval o).run Tryz.prog w=(Instr.yield l #[u,v]).run Tryz.prog w:=by
 have b:a.tmps[x]?.getD undef=u:=by simpa[Act.eval] using hx
 have c:a.tmps[y]?.getD undef=v:=by simpa[Act.eval] using hy
 simp only[execOp,ho,resolve,hf];simp[go_sem,b,c,invoke]
theorem my{B:Nat}{b:Nat}{t:TypeId}(h:Blk W b cs t)(hr:Rec B W W'):Blk W' b cs t:=⟨hr.same b _ h.blk (.inr rfl)⟩
theorem ve{Tp:TypeId→Prop}{gf bw N:Nat}{D:Nat→Prop}(IT:Itr Tp gf lb N (ArE E) Rd)(eg:∀ args w,(callFunc gf args).run Tryz.prog w=.ok (.enter gf args) w)(hT:¬ Tp 38)(hTe:¬ Tp 197)(ac:∀ V,Rd V→V.cell? ⟨bw,0,none⟩=some (.func (.func gf) #[] lb))(O:∀ V,Rd V→∀ e ∈ E,EnA V D e)(hbig:∀ e ∈ E,e.kl.length≤1000000000∧e.vl.length≤1000000000) :
    Itr Tp 347 #[.pointer (some ⟨bw,0,none⟩)] N (ArC E) Rd:=by
  intro l J Jx W hJ hJx p hY h0;have cw:=ac _ (p 0 W h0);have J1:=hJ 0 _ _ h0 (Rec.of (aa W (.cells #[.func (.yield l) #[] #[]] 38)));have cw1:=ac _ (p 0 _ J1);have Y1:=ay W [.func (.yield l) #[] #[]] 38;refine(callsIn_wide (n:=0)).1 ?_
  refine callsIn_of_wp_marks Tryz.func347 rfl trivial ?_ rfl;simp only[Tryz.ntmps347,List.size_toArray,List.length_cons,List.length_nil,Nat.reduceAdd,Nat.reduceSub,Array.replicate_succ,Array.replicate_zero,List.push_toArray,List.append_toArray,List.nil_append,List.cons_append];gi_wp2
  have hs1:(W.alloc (.cells #[.func (.yield l) #[] #[]] 38)).heap.size=W.heap.size+1:=by simp
  generalize W.alloc (.cells #[.func (.yield l) #[] #[]] 38)=W1 at *;refine kL IT (by rfl) eg (λi args n V V' h _=>h) (λi args n V h=>by obtain⟨e,_,rfl⟩:= h;rfl)
    (λi V=>J i V∧W1.heap.size≤V.heap.size∧Blk V W.heap.size [.func (.yield l) #[] #[]] 38)
    (λc i V=>c=.ret∧Jx i V∧W1.heap.size≤V.heap.size)
    (λi X Y hx M=>⟨hJ i X Y hx.1 (M.mono (by omega)),Nat.le_trans hx.2.1 M.size,my hx.2.2 M⟩)
    (λc i X Y hx M=>⟨hx.1,hJx i X Y hx.2.1 (M.mono (by omega)),Nat.le_trans hx.2.2 M.size⟩)
    (λi V hv=>p i V hv.1) ⟨J1,Nat.le_refl _,Y1⟩ ?_ ?_ ?_
  · rintro l2 i args V A hl hlV hrec H ⟨hJi,P,hY2⟩ hb ⟨e,he,rfl⟩
    have F:=List.mem_of_getElem? he;have z:=O V (p i V hJi) e F;obtain⟨hkb,hvb⟩:= hbig e F;obtain⟨ekv,m,evv,q⟩:= e;obtain⟨ak,nk,hk1⟩:= z.k.shape;obtain⟨Z,Q,R⟩:= z.v.shape;simp only at hk1 R;subst hk1 R;simp;gi_wp2;refine⟨aa A _,?_⟩;intro V2 L U hsz2 hYb j _ T hsz3 hV2 r hrec2;have t:=(O V2 (p i V2 U) _ F).keep (ae j (cT L))
    have hEb:Blk L A.heap.size [.slice ak m.length nk,.slice Z q.length Q] 197:=(ay A [.slice ak m.length nk,.slice Z q.length Q] 197).same (T _ (by have:=hb.size;omega));have hYW:=hYb.keep j;gi_wp2;refine Bi (S:=λw'=>Blk w' W.heap.size [.func (.yield l) #[] #[]] 38∧Blk w' A.heap.size [.slice ak m.length nk,.slice Z q.length Q] 197) (by kernel_rfl) ?_
    have hS:=(show _∧_ from⟨hYW.drew,hEb.drew⟩);have q1:=hb.size;have q2:=j.size;refine rH 0 (some 6) (.func (.yield l) #[] #[]) 38 2 W.heap.size 0 (λw' h=>qA h.1) hS ?_
    refine jS 1 (some 7) (.pointer (some ⟨A.heap.size,0,none⟩)) hS ?_
    refine rH 2 (some 8) (.slice ak m.length nk) 29 7 A.heap.size 0 (λw' h=>ld_b (h.2.cell (i:=0) rfl)) hS ?_
    refine jS 4 (some 10) (.pointer (some ⟨A.heap.size,1,none⟩)) hS ?_
    refine rH 5 (some 11) (.slice Z q.length Q) 29 10 A.heap.size 1 (λw' h=>ld_b (h.2.cell (i:=1) rfl)) hS ?_
    refine xd 3 (some 9) 104 #[.slice ak m.length nk] (cW t.k.by hkb) ?_
    rintro e' w3 ⟨G,rfl,hO3,d⟩;refine⟨_,rfl,⟨hS.1.keep d,hS.2.keep d⟩,?_⟩;replace hS:=(show _∧_ from⟨hS.1.keep d,hS.2.keep d⟩);refine xd 6 (some 12) 104 #[.slice Z q.length Q] (cW (t.v.keep d).by hvb) ?_
    rintro e' w4 ⟨K,rfl,hO4,g⟩;refine⟨_,rfl,⟨hS.1.keep g,hS.2.keep g⟩,?_⟩;replace hS:=(show _∧_ from⟨hS.1.keep g,hS.2.keep g⟩)
    have hBV:BW V2 w4:=ae (ae (ae j (cT L)) d) g
    have hBW:BW L w4:=ae (ae (cT L) d) g
    have hAr:ArC E i #[G,K] V2.heap.size w4:=⟨_,G,K,w3.heap.size,he,rfl,(hO3.lt'.keep g).mono (λb _ hb=>⟨Nat.le_trans j.size hb.1,hb.2⟩),hO4,Nat.le_trans j.size d.size⟩;refine Al 7 (some 13) l #[G,K] (by kernel_rfl) (by kernel_rfl) (FY (t1:=29) (t2:=29) (f:=6) (x:=9) (y:=12) (by kernel_rfl) (by kernel_rfl) (by kernel_rfl) (by kernel_rfl)) (hY i _ V2 w4 H U (by omega) hBV hAr) ?_
    rintro e' w5 ⟨I,h5⟩;have o:=I.blk hS.1 (Nat.le_refl _) hT;have s:=I.blk hS.2 (by omega) hTe
    have C:bM Tp (W.heap.size+1) L w5:=(bM.of (B:=W.heap.size+1) hBW).trans (I.mono (by omega))
    have u:W.heap.size+1≤w5.heap.size:=by have:=C.size;omega
    rcases h5 with⟨rfl,hJ5⟩ | ⟨rfl,hJ5⟩
    · refine⟨_,rfl,⟨o,s⟩,?_⟩
      have hS:=(show _∧_ from⟨o,s⟩);refine jS 8 (some 14) (.bool false) hS ?_
      refine wA (by kernel_rfl) ?_
      simp only[Act.put,List.setIfInBounds_toArray,List.set_cons_zero,List.set_cons_succ];gi_wp2;exact⟨C,hJ5,u,o⟩
    · refine⟨_,rfl,⟨o,s⟩,?_⟩
      have hS:=(show _∧_ from⟨o,s⟩);refine jS 8 (some 14) (.bool true) hS ?_
      refine wA (by kernel_rfl) ?_
      simp only[Act.put,List.setIfInBounds_toArray,List.set_cons_zero,List.set_cons_succ];gi_wp2;exact⟨C,rfl,hJ5,u⟩
  · rintro D' W' hD hK ⟨hJn,P,hYb⟩
    gi_wp2;refine⟨by simp,.inl ⟨_,_,rfl,run_takeDeferred hK,?_⟩⟩;exact⟨_,results_none rfl _ _ _,⟨_,rfl⟩,by simp;omega,.inl (hJ N _ _ hJn (Rec.put hK rfl (by omega) _))⟩
  · rintro D' c i W' hD hK H ⟨rfl,ab,P⟩
    gi_wp2;refine⟨by simp,.inl ⟨_,_,rfl,run_takeDeferred hK,?_⟩⟩;exact⟨_,results_none rfl _ _ _,⟨_,rfl⟩,by simp;omega,.inr ⟨i,H,hJx (i+1) _ _ ab (Rec.put hK rfl (by omega) _)⟩⟩
end
section
variable {w W W1:World}{lb:Array Value}{P:List (List En)}{f t:List Int}{X F D Df Dt:Nat->Prop}{g:Nat}{L:List Pg}{E:List En}{fv tv:Value}
theorem yu{pm d pt:Option Addr}{b c nt f:Nat}:Calls Tryz.prog 305 #[.pointer pm,.slice d b c,.slice pt nt f] w λe w'=>e=.returned (.func (.func 348) #[] #[.pointer (some ⟨w.heap.size,0,none⟩),.pointer (some ⟨w.heap.size + 1,0,none⟩),.pointer (some ⟨w.heap.size + 2,0,none⟩)])/\Blk w' w.heap.size [.pointer pm] 144/\Blk w' (w.heap.size + 1) [.slice d b c] 29/\Blk w' (w.heap.size + 2) [.slice pt nt f] 29/\BW w w':=by
 have b1:=aa w (.cells #[.pointer pm] 144);have i:=aa (w.alloc (.cells #[.pointer pm] 144)) (.cells #[.slice d b c] 29);have g:=aa ((w.alloc (.cells #[.pointer pm] 144)).alloc (.cells #[.slice d b c] 29)) (.cells #[.slice pt nt f] 29);have c1:=((ay w [.pointer pm] 144).keep i).keep g;have c2:=(ay (w.alloc (.cells #[.pointer pm] 144)) [.slice d b c] 29).keep g;have c3:=ay ((w.alloc (.cells #[.pointer pm] 144)).alloc (.cells #[.slice d b c] 29)) [.slice pt nt f] 29
 have s1:(w.alloc (.cells #[.pointer pm] 144)).heap.size=w.heap.size+1:=by simp
 have s2:((w.alloc (.cells #[.pointer pm] 144)).alloc (.cells #[.slice d b c] 29)).heap.size=w.heap.size+2:=by simp
 rw[s1] at c2;rw[s2] at c3;clear s1 s2;go_enter Tryz.func305,Tryz.ntmps305;go_wp2;go_ret;exact⟨by simp,c1,c2,c3,ae (ae b1 i) g⟩
theorem xX{k:Nat}:Calls Tryz.prog 304 #[.func (.func k) #[] lb] w λe w'=>e=.returned (.func (.func 347) #[] #[.pointer (some ⟨w.heap.size,0,none⟩)])/\Blk w' w.heap.size [.func (.func k) #[] lb] 389/\BW w w':=by
 go_enter Tryz.func304,Tryz.ntmps304;go_wp2;go_ret;exact⟨rfl,ay w _ _,aa w _⟩
theorem xe{e:En}(h:e∈wlk P f t):∃ es∈P,e∈es:=by
 unfold wlk at h;obtain⟨es,h1,h2⟩:=List.mem_flatMap.1 h;exact⟨es,mg h1,mg h2⟩
structure Wm(W:World)(X F D:Nat->Prop)(g:Nat)(L:List Pg):Prop where
 map:bR W F D g L
 ord:Ord (ens L)
 few:∀ es∈ens L,es.length<=32
 big:L.length<=100000000
 small:∀ es∈ens L,∀ e∈es,e.kl.length<=1000000000/\e.vl.length<=1000000000
 xF:∀ b,X b->¬ F b
 xU:∀ b,X b->∀ cs,¬ Blk W b cs 5
 xl:∀ b,X b->b < W.heap.size
theorem Wm.copies{Tp:TypeId→Prop}{X F D:Nat→Prop}{a f N:Nat}(K:Wm W X F D g L)(m:BW W W1)(r:Itr Tp a lb N (ArE E) (λV=>Chg X W1 V))(q:∀ args w,(callFunc a args).run Tryz.prog w=.ok (.enter a args) w)(o:¬ Tp 38)(h:¬ Tp 197)(hw:Blk W1 f [.func (.func a) #[] lb] 389)(n:W.heap.size≤f)(l:∀ e ∈ E,∃ es ∈ ens L,e ∈ es):Itr Tp 347 #[.pointer (some ⟨f,0,none⟩)] N (ArC E) (λV=>Chg X W1 V):=by
  refine ve (D:=D) r q o h (λV j=>(hw.chg j (λx=>by have:=K.xl _ x;omega)).cell (i:=0) rfl) (λV j e he=>?_) (λe he=>?_)
  · obtain⟨es,d,c⟩:= l e he
    obtain⟨p,s,rfl⟩:= List.mem_map.1 d;have A:=(K.map.keep m).chg j K.xF (λb hb cs k=>K.xU b hb cs (k.same (m.block b (K.xl b hb)).symm));exact(A.cM p s).1.fa e c
  · obtain⟨es,d,c⟩:= l e he
    exact K.small es d e c
theorem Wm.wk{bm bf bt:Nat}(K:Wm W X F D g L)(a:BW W W1)(hm:Blk W1 bm [.pointer (some ⟨g,0,none⟩)] 144)(hf:Blk W1 bf [fv] 29)(ht:Blk W1 bt [tv] 29)(lm:W.heap.size<=bm)(d:W.heap.size<=bf)(lt:W.heap.size<=bt)(of:OB W1 Df fv f)(c:OB W1 Dt tv t):Wk W1 X F D g L bm bf bt fv tv f t :=
 ⟨K.map.keep a,K.ord,K.few,K.big,K.xF,λb hb cs k=>K.xU b hb cs (k.same (a.block b (K.xl b hb)).symm),⟨hm,λx=>by have:=K.xl _ x;omega⟩,⟨hf,λx=>by have:=K.xl _ x;omega⟩,⟨ht,λx=>by have:=K.xl _ x;omega⟩,⟨_,of⟩,⟨_,c⟩⟩
theorem DA{Tp:TypeId->Prop}(K:Wm W X F D g L)(hf:By W fv f)(ht:By W tv t)(n:f.length<=1000000000)(l:t.length<=1000000000)(x:¬ Tp 38)(m:¬ Tp 197) :
  Calls Tryz.prog 244 #[.pointer (some ⟨g,0,none⟩),fv,tv] W λe W'=>∃ bw,e=.returned (.func (.func 347) #[] #[.pointer (some ⟨bw,0,none⟩)])/\BW W W'/\Itr Tp 347 #[.pointer (some ⟨bw,0,none⟩)] (wlk (ens L) f t).length (ArC (wlk (ens L) f t)) (λV=>Chg X W' V):=by
 have t1:=cW hf n;go_enter Tryz.func244,Tryz.ntmps244;go_wp2_with (go_at_call 104;refine t1.mono ?_;rintro e A ⟨v1,rfl,r,q⟩;obtain⟨a1,d1,rfl⟩:=r.shape);have t2:=cW (ht.keep q) l
 go_wp2_with (first
  | (go_at_call 104;refine t2.mono ?_;rintro e C ⟨v2,rfl,o,s⟩;obtain⟨a2,d2,rfl⟩:=o.shape)
  | (go_at_call 305;refine yu.mono ?_;rintro e B ⟨rfl,v,f3,t3,p⟩)
  | (go_at_call 304;refine xX.mono ?_;rintro e z ⟨rfl,y,j⟩))
 go_ret;have i:=ae q s;have d:=ae i p;have b:=ae d j;have s2:=i.size;have s3:=d.size;have c:=ae p j;have u:=K.wk b (v.keep j) (f3.keep j) (t3.keep j) (by omega) (by omega) (by omega) ((r.keep s).keep c) (o.keep c);exact⟨_,rfl,b,K.copies b (uw u) (enters_of Tryz.func348 (by kernel_rfl) rfl) x m y (by omega) (λe he=>xe he)⟩
end
end Pg
end
section
namespace Pg
open Go.RowKit Go.Lib
section
variable {F:Fence} {n:Nat} {P:Program} {ops:Array Oper} {Q:Exit->Act->World->Prop} {md:Region.Mode} {S:World->Prop} {z:Nat}
def waits (md:Region.Mode) (ops:Array Oper) (z i:Nat):Bool:=decide (z≠i) && (ops.getD z default).after.any λe=>Region.binds md e && decide (e.on=i)
end
section
variable {ops:Array Oper} {Q:Exit->Act->World->Prop} {S:World->Prop} {z fuel:Nat} {listed:Array Bool} {a:Act} {w:World} {l n:Nat}
end
end Pg
end
section
namespace Pg
open Go.RowKit Go.Lib
attribute [local go_sem] Oper.semAt_some
def En.kl2 (e:En):List Int × List Int:=(e.kl,e.vl)
theorem By.at {w:World} {ao:Option Addr} {n c:Nat} {l:List Int} (h:By w (.slice ao n c) l) {i:Nat} {x:Int} (hi:l[i]?=some x):∃ b o,ao=some ⟨b,o,none⟩/\w.cell? ⟨b,o+i,none⟩=some (.int .u8 x):=by
 obtain⟨d,f,e,_,_,_,_,a⟩:=h.ex
 cases e;rcases a with rfl | ⟨b,o,e,_,hc⟩
 ·simp at hi
 exact⟨b,o,e,hc i x hi⟩
end Pg
end
section
namespace Pg
section
variable {P:List (List En)}{i j:Nat}{a es:List En}{e:En}{k:List Int}
theorem Ord.pair(h:Ord P):(∀ es∈P,es.Pairwise λx y=>Lt x.kl y.kl)/\P.Pairwise λa b=>∀ x∈a,∀ y∈b,Lt x.kl y.kl:=by
 have:=h.ye;simp only[Srt,kys,List.pairwise_map,List.pairwise_flatten] at this;exact this
theorem Ord.of(h0:∀ es∈P,es≠[])(h:P.flatten.Pairwise λx y=>Lt x.kl y.kl):Ord P:=⟨h0,by simpa only [Srt,kys,List.pairwise_map] using h⟩
theorem Ord.two(h:Ord P){b:List En}{x y:En}(c:i < j)(e:P[i]?=some a)(hb:P[j]?=some b)(hx:x∈a)(hy:y∈b):Lt x.kl y.kl:=by
 obtain⟨f,rfl⟩:=List.getElem?_eq_some_iff.1 e;obtain⟨d,rfl⟩:=List.getElem?_eq_some_iff.1 hb;exact List.pairwise_iff_getElem.1 h.pair.2 i j f d c x hx y hy
theorem Ord.head(h:Ord P)(b:P[i]?=some a):∃ e,e∈a/\(fks P)[i]?=some e.kl/\∀ x∈a,¬ Lt x.kl e.kl:=by
 have hm:=List.mem_of_getElem? b;obtain⟨e,l,rfl,he⟩:=kJ (h.full a hm);refine⟨e,List.mem_cons_self,by rw[fks,List.getElem?_map,b];simp[kys],λx hx=>?_⟩;rcases List.mem_cons.1 hx with rfl | hx
 ·exact lt_irrefl _
 exact((List.pairwise_cons.1 (h.pair.1 _ hm)).1 x hx).not
theorem vD(h:es[j]?=some e):(kys es)[j]?=some e.kl:=by
 rw[kys,List.getElem?_map,h];rfl
theorem Ord.parts(O:Ord P)(v:P≠[])(k:List Int):∃ A es B,P=A ++ es :: B/\A.length=pgi P k/\P.getD (pgi P k) []=es /\
  (∀ e∈A.flatten ++ es.take (plc (kys es) k),Lt e.kl k)/\(∀ e∈es.drop (plc (kys es) k),¬ Lt e.kl k)/\(∀ e∈B.flatten,Lt k e.kl):=by
 have hi:pgi P k < P.length:=by
  have:=pJ (fks P) k;have:(fks P).length=P.length:=by simp[fks]
  have:P.length≠0:=λe=>v (List.eq_nil_of_length_eq_zero e)
  unfold pgi;omega
 obtain⟨i,c⟩:∃ i,pgi P k=i:=⟨_,rfl⟩
 rw[c] at hi ⊢
 have s:P[i]?=some P[i]:=List.getElem?_eq_getElem hi;refine⟨P.take i,P[i],P.drop (i+1),?_,by rw[List.length_take];omega,by rw[List.getD_eq_getElem?_getD,s];rfl,λe he=>?_,λe he=>?_,λe he=>?_⟩
 ·conv=>lhs;rw[<- List.take_append_drop i P,List.drop_eq_getElem_cons hi]
 ·rcases List.mem_append.1 he with he | he
  ·obtain⟨a,o,d⟩:=List.mem_flatten.1 he;obtain⟨j,b⟩:=List.getElem?_of_mem o
   have n:j < i:=by have:=(List.getElem?_eq_some_iff.1 b).1;rw[List.length_take] at this;omega
   rw[List.getElem?_take_of_lt n] at b
   have m:P[j+1]?=some P[j+1]:=List.getElem?_eq_getElem (by omega);obtain⟨h,t,f,q⟩:=O.head m;have p:=O.two (Nat.lt_succ_self j) b m d t;exact p.of_le (C0 (by unfold pgi at c;omega) f)
  obtain⟨j,b⟩:=List.getElem?_of_mem he
  have g:j < plc (kys P[i]) k:=by have:=(List.getElem?_eq_some_iff.1 b).1;rw[List.length_take] at this;omega
  rw[List.getElem?_take_of_lt g] at b;exact BT g (by rw[kys,List.getElem?_map,b];rfl)
 ·obtain⟨j,b⟩:=List.getElem?_of_mem he;rw[List.getElem?_drop] at b
  have hq:plc (kys P[i]) k < P[i].length:=by have:=(List.getElem?_eq_some_iff.1 b).1;omega
  have r:=Du (l:=kys P[i]) (k:=k) (x:=(P[i][plc (kys P[i]) k]).kl) (vD (List.getElem?_eq_getElem hq))
  cases j with
  | zero =>
   rw[Nat.add_zero,List.getElem?_eq_getElem hq] at b
   cases b;exact r
  | succ j =>
   intro u;have:=(O.page s).get (i:=plc (kys P[i]) k) (j:=plc (kys P[i]) k+(j+1)) (x:=(P[i][plc (kys P[i]) k]).kl) (y:=e.kl) (by omega) (vD (List.getElem?_eq_getElem hq)) (vD b);exact r (this.trans u)
 obtain⟨a,o,d⟩:=List.mem_flatten.1 he;obtain⟨j,b⟩:=List.getElem?_of_mem o;rw[List.getElem?_drop] at b;obtain⟨h,t,f,q⟩:=O.head b
 have hk:Lt k h.kl:=by
  have hq:plq (fks P) k < (fks P).length:=by
   have:=(List.getElem?_eq_some_iff.1 f).1;unfold pgi at c;omega
  have g0:=Bp (l:=fks P) (k:=k) (x:=(fks P)[plq (fks P) k]) (List.getElem?_eq_getElem hq);by_cases e:plq (fks P) k=i+1+j
  ·have g1:(fks P)[plq (fks P) k]? = some h.kl:=by rw[e]; exact f
   rw[List.getElem?_eq_getElem hq] at g1;rw[<- Option.some.inj g1];exact g0
  exact g0.trans (O.zi.get (by unfold pgi at c;omega) (List.getElem?_eq_getElem hq) f)
 exact hk.of_le (q e d)
theorem xD(A B:List (List En))(es:List En)(q:Nat)(e:En):sk (A ++ es :: B) A.length q e =
  if 32 < es.length+1 then A ++ (es.take q ++ [e] ++ es.drop q).take 16 :: (es.take q ++ [e] ++ es.drop q).drop 16 :: B else A ++ (es.take q ++ [e] ++ es.drop q) :: B:=by
 have e1:(A ++ es :: B).getD A.length []=es:=by simp
 have e2:(es.take q ++ [e] ++ es.drop q).length=es.length+1:=by
  simp only[List.length_append,List.length_take,List.length_drop,List.length_cons,List.length_nil];omega
 unfold sk;simp only[e1,e2];split
 ·simp
 simp
theorem Cj{X Y:List En}(h:(X ++ Y).Pairwise λx y=>Lt x.kl y.kl)(h1:∀ x∈X,Lt x.kl e.kl)(a:∀ y∈Y,Lt e.kl y.kl):(X ++ e :: Y).Pairwise λx y=>Lt x.kl y.kl:=by
 rw[List.pairwise_append] at h ⊢;refine⟨h.1,List.pairwise_cons.2 ⟨a,h.2.1⟩,λx hx y hy=>?_⟩;rcases List.mem_cons.1 hy with rfl | hy
 ·exact h1 x hx
 exact h.2.2 x hx y hy
theorem Ord.flat(O:Ord P):P.flatten.Pairwise λx y=>Lt x.kl y.kl:=by
 simpa only [Srt,kys,List.pairwise_map] using O.ye
theorem above(hs:Srt (kys es))(h:∀ e∈es.drop (plc (kys es) k),¬ Lt e.kl k)(hn:thr (kys es) k=false):∀ e∈es.drop (plc (kys es) k),Lt k e.kl:=λe he=>by
 rcases qy k e.kl with a | a | a
 ·exact a
 ·exfalso;have:k∈kys es:=List.mem_map.2 ⟨e,List.mem_of_mem_drop he,a.symm⟩;rw[(Eu hs).2 this] at hn
  cases hn
 exact absurd a (h e he)
theorem ri(hP:P≠[])(k:List Int):has P k=thr (kys (P.getD (pgi P k) [])) k:=by
 have e4:P.isEmpty=false:=by simpa using hP
 unfold has;rw[e4,Bool.not_false,Bool.true_and]
theorem qt(O:Ord P)(b:P≠[])(hn:has P e.kl=false):∃ A es B X Y,P=A ++ es :: B/\es=X ++ Y/\fG P e=(if 32 < es.length+1 then A ++ (X ++ e :: Y).take 16 :: (X ++ e :: Y).drop 16 :: B else A ++ (X ++ e :: Y) :: B) /\
  (∀ x∈A.flatten ++ X,Lt x.kl e.kl)/\(∀ x∈Y ++ B.flatten,Lt e.kl x.kl):=by
 obtain⟨A,es,B,e1,e2,e3,f,c,d⟩:=O.parts b e.kl
 have a:es∈P:=by rw[e1];simp
 obtain⟨i,hi⟩:=List.getElem?_of_mem a;rw[ri b,e3] at hn;have g:=above (O.page hi) c hn;refine⟨A,es,B,es.take (plc (kys es) e.kl),es.drop (plc (kys es) e.kl),e1,(List.take_append_drop _ _).symm,?_,f,λx hx=>(List.mem_append.1 hx).elim (g x) (d x)⟩;unfold fG;rw[if_neg b];simp only[e3,hn,Bool.false_eq_true,if_false];rw[<- e2]
 conv=>lhs;rw[e1]
 rw[xD];simp only[List.append_assoc,List.cons_append,List.nil_append]
theorem Ord.ins(O:Ord P)(hn:has P e.kl=false):Ord (fG P e):=by
 by_cases f:P=[]
 ·subst f;exact⟨λes h=>by simp[fG] at h;simp[h],by simp[fG,Srt,kys]⟩
 obtain⟨A,es,B,X,Y,e1,e2,e3,i,g⟩:=qt O f hn
 have d:(A.flatten ++ X ++ e :: (Y ++ B.flatten)).Pairwise λx y=>Lt x.kl y.kl:=by
  refine Cj ?_ i g;have:=O.flat;rw[e1,e2,List.flatten_append,List.flatten_cons] at this;simpa only [List.append_assoc] using this
 have c:(X ++ e :: Y).length=es.length+1:=by rw[e2];simp;omega
 rw[e3];split
 ·rename_i j;refine Ord.of (λa b=>?_) ?_
  ·rcases List.mem_append.1 b with b | b
   ·exact O.full a (by rw[e1];exact List.mem_append_left _ b)
   rcases List.mem_cons.1 b with rfl | b
   ·exact λh=>by have:=congrArg List.length h;rw[List.length_take,c] at this;simp at this
   rcases List.mem_cons.1 b with rfl | b
   ·exact λh=>by have:=congrArg List.length h;rw[List.length_drop,c] at this;simp at this;omega
   exact O.full a (by rw[e1];exact List.mem_append_right _ (List.mem_cons_of_mem _ b))
  rw[List.flatten_append,List.flatten_cons,List.flatten_cons,<- List.append_assoc (List.take 16 _),List.take_append_drop];simpa only [List.append_assoc,List.cons_append] using d
 refine Ord.of (λa b=>?_) ?_
 ·rcases List.mem_append.1 b with b | b
  ·exact O.full a (by rw[e1];exact List.mem_append_left _ b)
  rcases List.mem_cons.1 b with rfl | b
  ·simp
  exact O.full a (by rw[e1];exact List.mem_append_right _ (List.mem_cons_of_mem _ b))
 rw[List.flatten_append,List.flatten_cons];simpa only [List.append_assoc,List.cons_append] using d
theorem Ord.at(O:Ord P)(hk:has P k=true):∃ A es B X x Y,P=A ++ es :: B/\es=X ++ x :: Y/\x.kl=k/\A.length=pgi P k/\P.getD (pgi P k) []=es/\X.length=plc (kys es) k /\
  (∀ y∈A.flatten ++ X,Lt y.kl k)/\(∀ y∈Y ++ B.flatten,Lt k y.kl):=by
 have c:P≠[]:=λe=>by subst e;simp[has] at hk
 obtain⟨A,es,B,e1,e2,e3,f,g,d⟩:=O.parts c k
 have b:es∈P:=by rw[e1];simp
 obtain⟨i,hi⟩:=List.getElem?_of_mem b;rw[ri c,e3] at hk;obtain⟨x,hx,a⟩:=me hk;have hq:=(List.getElem?_eq_some_iff.1 hx).1
 have e5:es=es.take (plc (kys es) k) ++ x :: es.drop (plc (kys es) k+1):=by
  conv=>lhs;rw[<- List.take_append_drop (plc (kys es) k) es,List.drop_eq_getElem_cons hq]
  rw[(List.getElem?_eq_some_iff.1 hx).2]
 refine⟨A,es,B,_,x,_,e1,e5,a,e2,e3,by rw[List.length_take];omega,f,λy hy=>?_⟩;rcases List.mem_append.1 hy with hy | hy
 ·have:=O.pair.1 es b;rw[e5,List.pairwise_append,List.pairwise_cons] at this;rw[<- a];exact this.2.1.1 y hy
 exact d y hy
theorem nS{α:Type}(f:α->α):∀ (X Y:List α) (x:α),(X ++ x :: Y).modify X.length f=X ++ f x :: Y
 | [],_,_=>rfl
 | a :: X,Y,x=>by
  show (a :: (X ++ x :: Y)).modify (X.length+1) f=_
  rw[List.modify_succ_cons,nS f X Y x];rfl
theorem qg(O:Ord P)(hk:has P e.kl=true):∃ A es B X x Y,P=A ++ es :: B/\es=X ++ x :: Y/\x.kl=e.kl/\fG P e=A ++ (X ++ { x with vv:=e.vv,vl:=e.vl } :: Y) :: B:=by
 have a:P≠[]:=λh=>by subst h;simp[has] at hk
 obtain⟨A,es,B,X,x,Y,e1,e2,e3,e4,e5,e6,_⟩:=O.at hk;refine⟨A,es,B,X,x,Y,e1,e2,e3,?_⟩;rw[ri a,e5] at hk;unfold fG;rw[if_neg a];simp only[e5,hk,if_true];rw[<- e6,<- e4]
 conv=>lhs;rw[e1]
 rw[List.set_append_right _ _ (Nat.le_refl _),Nat.sub_self,List.set_cons_zero,e2,nS]
theorem Ord.upd(O:Ord P)(hk:has P e.kl=true):Ord (fG P e):=by
 obtain⟨A,es,B,X,x,Y,e1,e2,e3,e4⟩:=qg O hk;rw[e4];have c:=O.ye;rw[e1,e2] at c;refine⟨λa b=>?_,by simpa[kys,Srt] using c⟩;rcases List.mem_append.1 b with b | b
 ·exact O.full a (by rw[e1];exact List.mem_append_left _ b)
 rcases List.mem_cons.1 b with rfl | b
 ·simp
 exact O.full a (by rw[e1];exact List.mem_append_right _ (List.mem_cons_of_mem _ b))
theorem Ord.set(O:Ord P)(e:En):Ord (fG P e):=by
 cases h:has P e.kl
 ·exact O.ins h
 exact O.upd h
end
section
variable {A B:List Nat}{x x' y:Nat}{P:List (List En)}
def Nb:List Nat->Prop
 | []=>True
 | [_]=>True
 | x :: y :: l=>17<=x+y/\Nb (y :: l)
theorem dt:∀ {A:List Nat} {x:Nat} {B:List Nat},Nb (A ++ x :: B)<->Nb (A ++ [x])/\Nb (x :: B)
 | [],x,B=>by simp[Nb]
 | [a],x,B=>by simp[Nb]
 | a :: b :: A,x,B=>by
  have:=dt (A:=b :: A) (x:=x) (B:=B);simp only[List.cons_append,Nb] at this ⊢;rw[this,and_assoc]
theorem Nb.front(h:Nb (A ++ [x]))(hx:x<=x'):Nb (A ++ [x']):=by
 induction A with
 | nil=>trivial
 | cons a A ih =>
  cases A with
  | nil=>simp only[List.cons_append,List.nil_append,Nb] at h ⊢;exact⟨by omega,trivial⟩
  | cons b A=>simp only[List.cons_append,Nb] at h ih ⊢;exact⟨h.1,ih h.2⟩
theorem Nb.back(h:Nb (x :: B))(hx:x<=x'):Nb (x' :: B):=by
 cases B with
 | nil=>trivial
 | cons b B=>simp only[Nb] at h ⊢;exact⟨by omega,h.2⟩
theorem Nb.qQ(h:Nb (A ++ [x]))(c:∀ a∈A,1<=a)(hy:16<=y):Nb (A ++ [y]):=by
 induction A with
 | nil=>trivial
 | cons a A ih =>
  cases A with
  | nil =>
   have:=c a List.mem_cons_self;simp only[List.cons_append,List.nil_append,Nb];exact⟨by omega,trivial⟩
  | cons b A=>simp only[List.cons_append,Nb] at h ih ⊢;exact⟨h.1,ih h.2 (λa h=>c a (List.mem_cons_of_mem _ h))⟩
theorem Nb.vC(h:Nb (x :: B))(hb:∀ b∈B,1<=b)(hy:16<=y):Nb (y :: B):=by
 cases B with
 | nil=>trivial
 | cons b B =>
  have:=hb b List.mem_cons_self;simp only[Nb] at h ⊢;exact⟨by omega,h.2⟩
structure Shq(P:List (List En)):Prop where
 one:∀ es∈P,1<=es.length/\es.length<=32
 two:Nb (P.map List.length)
theorem Shq.nil:Shq []:=⟨λ_ h=>by simp at h,trivial⟩
theorem Shq.set(h:Shq P)(O:Ord P)(e:En):Shq (fG P e):=by
 by_cases i:P=[]
 ·subst i;exact⟨λes h=>by simp[fG] at h;simp[h],by simp[fG,Nb]⟩
 cases hk:has P e.kl
 ·obtain⟨A,es,B,X,Y,e1,e2,e3,_⟩:=qt O i hk
  have f:(X ++ e :: Y).length=es.length+1:=by rw[e2];simp;omega
  have d:=h.two;rw[e1,List.map_append,List.map_cons,dt] at d;have l:=h.one es (by rw[e1];simp);rw[e3];split
  ·refine⟨λa c=>?_,?_⟩
   ·rcases List.mem_append.1 c with c | c
    ·exact h.one a (by rw[e1];exact List.mem_append_left _ c)
    rcases List.mem_cons.1 c with rfl | c
    ·rw[List.length_take,f];omega
    rcases List.mem_cons.1 c with rfl | c
    ·rw[List.length_drop,f];omega
    exact h.one a (by rw[e1];exact List.mem_append_right _ (List.mem_cons_of_mem _ c))
   rw[List.map_append,List.map_cons,List.map_cons,List.length_take,List.length_drop,f,show min 16 (es.length+1)=16 by omega,dt];refine⟨d.1.qQ (λa c=>?_) (Nat.le_refl _),⟨by omega,d.2.vC (λb hb=>?_) (by omega)⟩⟩
   ·obtain⟨k,g,rfl⟩:=List.mem_map.1 c;exact(h.one k (by rw[e1];exact List.mem_append_left _ g)).1
   obtain⟨j,g,rfl⟩:=List.mem_map.1 hb;exact(h.one j (by rw[e1];exact List.mem_append_right _ (List.mem_cons_of_mem _ g))).1
  refine⟨λa c=>?_,?_⟩
  ·rcases List.mem_append.1 c with c | c
   ·exact h.one a (by rw[e1];exact List.mem_append_left _ c)
   rcases List.mem_cons.1 c with rfl | c
   ·rw[f];omega
   exact h.one a (by rw[e1];exact List.mem_append_right _ (List.mem_cons_of_mem _ c))
  rw[List.map_append,List.map_cons,f,dt];exact⟨d.1.front (by omega),d.2.back (by omega)⟩
 obtain⟨A,es,B,X,x,Y,e1,e2,e3,e4⟩:=qg O hk
 have f:(X ++ { x with vv:=e.vv,vl:=e.vl } :: Y).length=es.length:=by rw[e2];simp
 rw[e4];refine⟨λa c=>?_,?_⟩
 ·rcases List.mem_append.1 c with c | c
  ·exact h.one a (by rw[e1];exact List.mem_append_left _ c)
  rcases List.mem_cons.1 c with rfl | c
  ·rw[f];exact h.one es (by rw[e1];simp)
  exact h.one a (by rw[e1];exact List.mem_append_right _ (List.mem_cons_of_mem _ c))
 have d:=h.two;rw[e1,List.map_append,List.map_cons] at d;rw[List.map_append,List.map_cons,f];exact d
end
section
variable {P:List (List En)}{i:Nat}{A B:List Nat}{k:List Int}
theorem jJ(h:jnb P i=true):∃ A a b B,P=A ++ a :: b :: B/\A.length=i/\jnQ P i=A ++ (a ++ b) :: B/\a.length+b.length<=16:=by
 unfold jnb at h;rw[Bool.and_eq_true,decide_eq_true_eq,decide_eq_true_eq] at h;obtain⟨e,c⟩:=h
 have g1:P.getD i []=P[i]:=by rw[List.getD_eq_getElem?_getD,List.getElem?_eq_getElem (by omega)];rfl
 have d:P.getD (i+1) []=P[i+1]:=by rw[List.getD_eq_getElem?_getD,List.getElem?_eq_getElem e];rfl
 rw[g1,d] at c;refine⟨P.take i,P[i],P[i+1],P.drop (i+2),?_,by rw[List.length_take];omega,?_,c⟩
 ·conv=>lhs;rw[<- List.take_append_drop i P,List.drop_eq_getElem_cons (show i < P.length by omega),List.drop_eq_getElem_cons e]
 unfold jnQ;rw[g1,d];simp
theorem G4{A B:List (List En)}{a b:List En}(h:jnb (A ++ a :: b :: B) A.length=false):17<=a.length+b.length:=by
 unfold jnb at h;simp at h;omega
theorem kX(O:Ord P)(hk:has P k=true):∃ A es B X x Y,P=A ++ es :: B/\es=X ++ x :: Y/\x.kl=k/\ie P k=(if X ++ Y=[] then A ++ B else if jnb (A ++ (X ++ Y) :: B) A.length then jnQ (A ++ (X ++ Y) :: B) A.length else if 1<=A.length/\jnb (A ++ (X ++ Y) :: B) (A.length - 1) then jnQ (A ++ (X ++ Y) :: B) (A.length - 1) else A ++ (X ++ Y) :: B) /\
  (∀ y∈A.flatten ++ X,Lt y.kl k)/\(∀ y∈Y ++ B.flatten,Lt k y.kl):=by
 obtain⟨A,es,B,X,x,Y,e1,e2,e3,e4,e5,e6,c,a⟩:=O.at hk;refine⟨A,es,B,X,x,Y,e1,e2,e3,?_,c,a⟩;unfold ie rmQ;rw[if_pos hk];simp only[e5];rw[<- e6,<- e4]
 have g1:es.take X.length ++ es.drop (X.length+1)=X ++ Y:=by rw[e2];simp
 have b:P.set A.length (X ++ Y)=A ++ (X ++ Y) :: B:=by rw[e1];simp
 have d:P.take A.length ++ P.drop (A.length+1)=A ++ B:=by rw[e1];simp
 simp only[g1,b,d]
theorem Ord.join(O:Ord P)(h:jnb P i=true):Ord (jnQ P i):=by
 obtain⟨A,a,b,B,e1,e2,e3,_⟩:=jJ h;rw[e3];have d:=O.flat;rw[e1] at d;refine Ord.of (λc hc=>?_) (by simpa using d);rcases List.mem_append.1 hc with hc | hc
 ·exact O.full c (by rw[e1];exact List.mem_append_left _ hc)
 rcases List.mem_cons.1 hc with rfl | hc
 ·intro h;exact O.full a (by rw[e1];simp) (List.append_eq_nil_iff.1 h).1
 exact O.full c (by rw[e1];simp[hc])
theorem Ord.del(O:Ord P)(k:List Int):Ord (ie P k):=by
 cases hk:has P k
 ·unfold ie;rw[hk];exact O
 obtain⟨A,es,B,X,x,Y,e1,e2,e3,e4,_⟩:=kX O hk;have e:=O.flat;rw[e1,e2] at e
 have a:(A.flatten ++ (X ++ Y) ++ B.flatten).Pairwise λx y=>Lt x.kl y.kl:=by
  refine e.sublist ?_
  simp only[List.flatten_append,List.flatten_cons,List.append_assoc,List.cons_append];exact(List.Sublist.refl _).append ((List.Sublist.refl _).append (List.sublist_cons_self _ _))
 rw[e4];split
 ·rename_i he;rw[he,List.append_nil] at a;refine Ord.of (λc hc=>O.full c ?_) (by rw[List.flatten_append];exact a);rw[e1];rcases List.mem_append.1 hc with hc | hc<;>simp[hc]
 rename_i he
 have d:Ord (A ++ (X ++ Y) :: B):=Ord.of (λc hc=>by
  rcases List.mem_append.1 hc with hc | hc
  ·exact O.full c (by rw[e1];simp[hc])
  rcases List.mem_cons.1 hc with rfl | hc
  ·exact he
  exact O.full c (by rw[e1];simp[hc])) (by rw[List.flatten_append,List.flatten_cons,<- List.append_assoc];exact a)
 split
 ·rename_i b;exact d.join b
 split
 ·rename_i b;exact d.join b.2
 exact d
theorem wQ:∀ {A:List Nat} {x:Nat},Nb (A ++ [x])->Nb A
 | [],_,_=>trivial
 | [_],_,_=>trivial
 | a :: b :: A,x,h=>by
  simp only[List.cons_append,Nb] at h ⊢;exact⟨h.1,wQ (A:=b :: A) h.2⟩
theorem CM{x y:Nat}:Nb (A ++ x :: y :: B)<->Nb (A ++ [x])/\17<=x+y/\Nb (y :: B):=by
 rw[dt];simp only[Nb]
theorem Shq.del(h:Shq P)(O:Ord P)(k:List Int):Shq (ie P k):=by
  cases hk:has P k
  · unfold ie;rw[hk];exact h
  obtain⟨A,es,B,X,x,Y,e1,e2,e3,e4,_⟩:= kX O hk
  have u:(X ++ Y).length+1=es.length:=by rw[e2];simp;omega
  have e:=h.two;rw[e1,List.map_append,List.map_cons,dt] at e;have E:=h.one es (by rw[e1];simp)
  have hA:∀ a ∈ A,1≤a.length∧a.length≤32:=λa o=>h.one a (by rw[e1];simp[o])
  have i:∀ b ∈ B,1≤b.length∧b.length≤32:=λb hb=>h.one b (by rw[e1];simp[hb])
  rw[e4];generalize X ++ Y=Z at u ⊢;split
  · rename_i q
    subst q;simp at u;refine⟨λc hc=>(List.mem_append.1 hc).elim (hA c) (i c),?_⟩;rw[List.map_append]
    cases B with
    | nil =>
      rw[List.map_nil,List.append_nil];exact wQ e.1
    | cons b B =>
      have f:=e.2;simp only[List.map_cons,Nb] at f;rw[List.map_cons,dt];exact⟨e.1.front (by omega),f.2⟩
  · rename_i q
    have F : 1 ≤ Z.length := by cases Z with
      | nil=>exact absurd rfl q
      | cons=>simp
    split
    · rename_i j
      obtain⟨p,a,b,v,g1,w,t,D⟩:= jJ j;obtain⟨rfl,n⟩:= List.append_inj g1 w.symm;injection n with n l
      subst n l;rw[t];have f:=e.2;simp only[List.map_cons,Nb] at f;have hb:=i b List.mem_cons_self;refine⟨λc hc=>?_,?_⟩
      · rcases List.mem_append.1 hc with hc | hc
        · exact hA c hc
        · rcases List.mem_cons.1 hc with rfl | hc
          · rw[List.length_append];omega
          · exact i c (List.mem_cons_of_mem _ hc)
      · rw[List.map_append,List.map_cons,List.length_append,dt]
        refine⟨e.1.qQ (λa o=>?_) (by omega),f.2.vC (λc hc=>?_) (by omega)⟩
        · obtain⟨z,d,rfl⟩:= List.mem_map.1 o;exact(hA z d).1
        · obtain⟨m,d,rfl⟩:= List.mem_map.1 hc;exact(i m (List.mem_cons_of_mem _ d)).1
    · rename_i r
      split
      · rename_i j
        obtain⟨y,j⟩:= j;obtain⟨p,a,b,v,g1,w,t,D⟩:= jJ j
        have n:A ++ Z :: B=(p ++ [a]) ++ b :: v:=by rw[g1];simp
        obtain⟨rfl,l⟩:= List.append_inj n (by simp;omega);injection l with l C
        subst l C;rw[t];have d:=e.1;rw[List.map_append,List.append_assoc,List.map_cons,List.map_nil,List.cons_append,List.nil_append,CM] at d;have o:=hA a (by simp);refine⟨λc hc=>?_,?_⟩
        · rcases List.mem_append.1 hc with hc | hc
          · exact hA c (List.mem_append_left _ hc)
          · rcases List.mem_cons.1 hc with rfl | hc
            · rw[List.length_append];omega
            · exact i c hc
        · rw[List.map_append,List.map_cons,List.length_append,dt]
          refine⟨d.1.qQ (λc hc=>?_) (by omega),e.2.vC (λc hc=>?_) (by omega)⟩
          · obtain⟨m,d,rfl⟩:= List.mem_map.1 hc;exact(hA m (List.mem_append_left _ d)).1
          · obtain⟨m,d,rfl⟩:= List.mem_map.1 hc;exact(i m d).1
      · rename_i s
        refine⟨λc hc=>?_,?_⟩
        · rcases List.mem_append.1 hc with hc | hc
          · exact hA c hc
          · rcases List.mem_cons.1 hc with rfl | hc
            · omega
            · exact i c hc
        · rw[List.map_append,List.map_cons,dt]
          constructor
          · rcases List.eq_nil_or_concat A with rfl | ⟨p, a, rfl⟩
            · trivial
            · have g:17≤a.length+Z.length:=by
                refine G4 (A:=p) (B:=B) (Bool.eq_false_iff.2 λg=>s ⟨by simp,?_⟩);simpa using g
              have d:=e.1;simp only[List.concat_eq_append,List.map_append,List.append_assoc,List.map_cons,List.map_nil,List.cons_append,List.nil_append] at d ⊢;rw[CM] at d ⊢;exact⟨d.1,g,trivial⟩
          · cases B with
            | nil=>trivial
            | cons b B =>
              have g:17≤Z.length+b.length:=G4 (A:=A) (B:=B) (Bool.eq_false_iff.2 λg=>r g);have f:=e.2;simp only[List.map_cons,Nb] at f ⊢;exact⟨g,f.2⟩
end
section
variable {es:List En}{P:List (List En)}{f g:List En->List En}
def btw(f t:List Int)(e:En):Bool:=!decide (Lt e.kl f) && (decide (t=[]) || decide (Lt e.kl t))
theorem tQ:∀ (l:List (List Int)) (k:List Int) (b:Nat),plc (l.take b) k=min (plc l k) b
 | [],k,b=>by simp[plc]
 | x :: l,k,0=>by simp[plc]
 | x :: l,k,b + 1=>by
  rw[List.take_succ_cons,plc,plc];split
  ·rw[tQ l k b];omega
  simp
theorem sJ : ∀ {es : List En} (_ : es.Pairwise λx y => Lt x.kl y.kl) (k : List Int), es.take (plc (kys es) k) = es.filter λe => decide (Lt e.kl k)
  | [],_,_=>by simp
  | x :: es, h, k => by
    have h':=List.pairwise_cons.1 h;rw[show kys (x :: es)=x.kl :: kys es from rfl,plc];by_cases hx:Lt x.kl k
    · rw[if_pos hx,List.take_succ_cons,sJ h'.2 k,List.filter_cons_of_pos (by simpa using hx)]
    · rw[if_neg hx,List.take_zero,List.filter_cons_of_neg (by simpa using hx)]
      symm
      rw[List.filter_eq_nil_iff];intro e he a;exact hx ((h'.1 e he).trans (by simpa using a))
theorem nL : ∀ {es : List En} (_ : es.Pairwise λx y => Lt x.kl y.kl) (k : List Int), es.drop (plc (kys es) k) = es.filter λe => !decide (Lt e.kl k)
  | [],_,_=>by simp
  | x :: es, h, k => by
    have h':=List.pairwise_cons.1 h;rw[show kys (x :: es)=x.kl :: kys es from rfl,plc];by_cases hx:Lt x.kl k
    · rw[if_pos hx,List.drop_succ_cons,nL h'.2 k,List.filter_cons_of_neg (by simpa using hx)]
    · rw[if_neg hx,List.drop_zero]
      symm
      rw[List.filter_eq_self];intro e he;rcases List.mem_cons.1 he with rfl | he
      · simpa using hx
      · have:=h'.1 e he
        simp only[Bool.not_eq_true',decide_eq_false_iff_not];exact λa=>hx (this.trans a)
theorem EX(h:es.Pairwise λx y=>Lt x.kl y.kl)(f t:List Int):wth es f t=es.filter (btw f t):=by
 unfold wth uS cut;by_cases a:t=[]
 ·rw[if_pos a,List.take_of_length_le (by rw[List.length_drop];omega),nL h];congr 1
  funext e
  simp[btw,a]
 rw[if_neg a]
 have e1:max (plc (kys es) f) (plc (kys es) t) - plc (kys es) f=plc (kys es) t - plc (kys es) f:=by omega
 have e2:es.filter (btw f t)=(es.filter λe=>decide (Lt e.kl t)).filter λe => !decide (Lt e.kl f):=by
  rw[List.filter_filter];congr 1
  funext e
  simp[btw,a]
 have hk:kys (es.take (plc (kys es) t))=(kys es).take (plc (kys es) t):=by simp[kys,List.map_take]
 rw[e1,<- List.drop_take,e2,<- sJ h,<- nL (h.sublist (List.take_sublist _ _)),hk,tQ];by_cases hb:plc (kys es) f<=plc (kys es) t
 ·rw[Nat.min_eq_left hb]
 rw[List.drop_of_length_le (by rw[List.length_take];omega),List.drop_of_length_le (by rw[List.length_take];omega)]
theorem tJ(p:En->Bool):P.flatMap (λes=>es.filter p)=P.flatten.filter p:=by
 induction P with
 | nil=>rfl
 | cons a P ih=>rw[List.flatMap_cons,ih,List.flatten_cons,List.filter_append]
theorem qB(h:∀ es∈P,f es=g es):P.flatMap f=P.flatMap g:=by
 induction P with
 | nil=>rfl
 | cons a P ih=>rw[List.flatMap_cons,List.flatMap_cons,h a List.mem_cons_self,ih λes he=>h es (List.mem_cons_of_mem _ he)]
theorem EJ(O:Ord P)(f t:List Int):wlk P f t=P.flatten.filter (btw f t):=by
 by_cases k:P=[]
 ·subst k;simp[wlk,cut]
 obtain⟨A,es,B,e1,e2,e3,q,v,w⟩:=O.parts k f
 have hA:(P.take (pgi P f)).flatten.filter (btw f t)=[]:=by
  rw[<- e2];have:P.take A.length=A:=by rw[e1];simp
  rw[this,List.filter_eq_nil_iff];intro e he hb;have:=q e (List.mem_append_left _ he);simp[btw,this] at hb
 have u:(P.drop (max (pgi P f) (fe P t))).flatten.filter (btw f t)=[]:=by
  rw[List.filter_eq_nil_iff];intro e he hb;unfold fe at he;by_cases d:t=[]
  ·rw[if_pos d,List.drop_of_length_le (by omega)] at he;simp at he
  rw[if_neg d] at he;obtain⟨x,r,n,g1,o,y,k1,k2,p⟩:=O.parts k t
  have s:P.drop (pgi P t+1)=n:=by
   rw[<- o]
   conv=>lhs;rw[g1]
   simp
  have c:e∈n.flatten:=by
   obtain⟨a,l,h⟩:=List.mem_flatten.1 he;refine List.mem_flatten.2 ⟨a,?_,h⟩;rw[<- s]
   have hlen:pgi P t+1<=P.length:=by rw[<- o,g1];simp
   rw[Nat.min_eq_left hlen] at l;obtain⟨j,m⟩:=List.getElem?_of_mem l;rw[List.getElem?_drop] at m;refine List.mem_of_getElem? (i:=max (pgi P f) (pgi P t+1)+j - (pgi P t+1)) ?_
   rw[List.getElem?_drop,show pgi P t+1+(max (pgi P f) (pgi P t+1)+j - (pgi P t+1))=max (pgi P f) (pgi P t+1)+j by omega];exact m
  have:=p e c;simp[btw,d,this.not] at hb
 have b:P=P.take (pgi P f) ++ (cut P (pgi P f) (fe P t) ++ P.drop (max (pgi P f) (fe P t))):=by
  unfold cut
  conv=>lhs;rw[<- List.take_append_drop (pgi P f) P,<- List.take_append_drop (max (pgi P f) (fe P t) - pgi P f) (P.drop (pgi P f))]
  rw[List.drop_drop,show pgi P f+(max (pgi P f) (fe P t) - pgi P f)=max (pgi P f) (fe P t) by omega]
 unfold wlk;rw[qB (g:=λes=>es.filter (btw f t)) (λes he=>EX (O.pair.1 es (mg he)) f t),tJ]
 conv=>rhs;rw[b]
 rw[List.flatten_append,List.flatten_append,List.filter_append,List.filter_append,hA,u,List.nil_append,List.append_nil]
end
section
variable {P:List (List En)}{e:En}{k:List Int}
theorem gI(O:Ord P)(hn:has P e.kl=false):∃ X Y,P.flatten=X ++ Y/\(fG P e).flatten=X ++ e :: Y/\(∀ x∈X,Lt x.kl e.kl)/\(∀ y∈Y,Lt e.kl y.kl):=by
 by_cases a:P=[]
 ·subst a;exact⟨[],[],rfl,by simp[fG],by simp,by simp⟩
 obtain⟨A,es,B,X,Y,e1,e2,e3,c,b⟩:=qt O a hn;refine⟨A.flatten ++ X,Y ++ B.flatten,by rw[e1,e2];simp,?_,c,b⟩;rw[e3];split
 ·rw[List.flatten_append,List.flatten_cons,List.flatten_cons,<- List.append_assoc (List.take 16 _),List.take_append_drop];simp
 simp
theorem gO(O:Ord P)(hk:has P e.kl=true):∃ X x Y,P.flatten=X ++ x :: Y/\x.kl=e.kl/\(fG P e).flatten=X ++ { x with vv:=e.vv,vl:=e.vl } :: Y:=by
 obtain⟨A,es,B,X,x,Y,e1,e2,e3,e4⟩:=qg O hk;refine⟨A.flatten ++ X,x,Y ++ B.flatten,by rw[e1,e2];simp,e3,by rw[e4];simp⟩
theorem nM{i:Nat}(h:jnb P i=true):(jnQ P i).flatten=P.flatten:=by
 obtain⟨A,a,b,B,e1,e2,e3,_⟩:=jJ h;rw[e3,e1];simp
theorem ow(O:Ord P)(hk:has P k=true):∃ X x Y,P.flatten=X ++ x :: Y/\x.kl=k/\(ie P k).flatten=X ++ Y:=by
 obtain⟨A,es,B,X,x,Y,e1,e2,e3,e4,_⟩:=kX O hk;refine⟨A.flatten ++ X,x,Y ++ B.flatten,by rw[e1,e2];simp,e3,?_⟩
 have g:(A ++ (X ++ Y) :: B).flatten=A.flatten ++ X ++ (Y ++ B.flatten):=by simp
 rw[e4,<- g];split
 ·rename_i h;rw[h];simp
 split
 ·rename_i h;exact nM h
 split
 ·rename_i h;exact nM h.2
 rfl
theorem te(hk:has P k=false):ie P k=P:=by unfold ie;rw[hk];rfl
theorem EW(O:Ord P)(e:En):(fG P e).flatten.length=P.flatten.length + if has P e.kl then 0 else 1:=by
 cases h:has P e.kl
 ·obtain⟨X,Y,e1,e2,_⟩:=gI O h;rw[e1,e2];simp;omega
 obtain⟨X,x,Y,e1,_,e2⟩:=gO O h;rw[e1,e2];simp
end
section
variable {P:List (List En)}{k:List Int}
abbrev KV:=List Int × List Int
def abs(P:List (List En)):List (List KV):=P.map λes=>es.map En.kl2
def apl(Q:List (List KV))(k:List Int):Nat:=plq (Q.map λes=>(es.map Prod.fst).headD []) k - 1
def gU(Q:List (List KV))(k:List Int):Bool:=!Q.isEmpty && thr ((Q.getD (apl Q k) []).map Prod.fst) k
def yj(Q:List (List KV))(k:List Int):List Int:=((Q.getD (apl Q k) [])[plc ((Q.getD (apl Q k) []).map Prod.fst) k]?.map Prod.snd).getD []
def ains(Q:List (List KV))(i q:Nat)(x:KV):List (List KV) :=
 let es:=(Q.getD i []).take q ++ [x] ++ (Q.getD i []).drop q
 if 32 < es.length then Q.take i ++ [es.take 16,es.drop 16] ++ Q.drop (i+1) else Q.set i es
def oF(Q:List (List KV))(k v:List Int):List (List KV) :=
 if Q=[] then [[(k,v)]]
 else
  let i:=apl Q k
  let es:=Q.getD i []
  let q:=plc (es.map Prod.fst) k
  if thr (es.map Prod.fst) k then Q.set i (es.modify q λx=>(x.1,v)) else ains Q i q (k,v)
def Eo(Q:List (List KV))(i:Nat):Bool:=decide (i+1 < Q.length) && decide ((Q.getD i []).length+(Q.getD (i+1) []).length<=16)
def ajn(Q:List (List KV))(i:Nat):List (List KV):=Q.take i ++ [Q.getD i [] ++ Q.getD (i+1) []] ++ Q.drop (i+2)
def arm(Q:List (List KV))(i q:Nat):List (List KV) :=
 let es:=(Q.getD i []).take q ++ (Q.getD i []).drop (q+1)
 if es=[] then Q.take i ++ Q.drop (i+1)
 else
  let Q1:=Q.set i es
  if Eo Q1 i then ajn Q1 i else if 1<=i/\Eo Q1 (i - 1) then ajn Q1 (i - 1) else Q1
def qu(Q:List (List KV))(k:List Int):List (List KV) :=
 if gU Q k then arm Q (apl Q k) (plc ((Q.getD (apl Q k) []).map Prod.fst) k) else Q
def Ab(f t:List Int)(x:KV):Bool:=!decide (Lt x.1 f) && (decide (t=[]) || decide (Lt x.1 t))
theorem jR(es:List En):(es.map En.kl2).map Prod.fst=kys es:=by rw[List.map_map];rfl
theorem dS(P:List (List En))(i:Nat):(abs P).getD i []=(P.getD i []).map En.kl2:=by
 simp only[abs,List.getD_eq_getElem?_getD,List.getElem?_map]
 cases P[i]? <;> rfl
theorem mz(P:List (List En))(k:List Int):apl (abs P) k=pgi P k:=by
 unfold apl pgi abs fks;rw[List.map_map];congr 2
 apply List.map_congr_left;intro es _;simp only[Function.comp_apply,jR]
theorem gH(P:List (List En))(k:List Int):gU (abs P) k=has P k:=by
 unfold gU has;rw[mz,dS,jR]
 cases P<;>rfl
theorem Et(P:List (List En))(k:List Int):yj (abs P) k=got P k:=by
 unfold yj got;rw[mz,dS,jR,List.getElem?_map,Option.map_map];rfl
theorem oo{α β:Type}{f:α->α}{g:α->β}{f':β->β}(h:∀ x,g (f x)=f' (g x)):∀ (l:List α) (q:Nat),(l.modify q f).map g=(l.map g).modify q f'
 | [],q=>by cases q<;>rfl
 | a :: l,0=>by simp[h]
 | a :: l,q+1=>by simp[oo h l q]
theorem ER:abs P=[]<->P=[]:=by simp[abs]
theorem jx(P:List (List En))(i:Nat)(es:List En):abs (P.set i es)=(abs P).set i (es.map En.kl2):=by simp[abs,List.map_set]
theorem Gm(P:List (List En)):(abs P).length=P.length:=by simp[abs]
theorem Ev(P:List (List En))(i q:Nat)(e:En):abs (sk P i q e)=ains (abs P) i q (e.kl,e.vl):=by
 have h:(((abs P).getD i []).take q ++ [(e.kl,e.vl)] ++ ((abs P).getD i []).drop q)=((P.getD i []).take q ++ [e] ++ (P.getD i []).drop q).map En.kl2:=by
  rw[dS];simp[List.map_take,List.map_drop,En.kl2]
 unfold ains sk;simp only;rw[h];simp only[List.length_map];split
 ·simp[abs,List.map_take,List.map_drop]
 rw[jx]
theorem rE(P:List (List En))(e:En):abs (fG P e)=oF (abs P) e.kl e.vl:=by
 unfold fG oF;by_cases h:P=[]
 ·subst h;rfl
 rw[if_neg h,if_neg (λe=>h (ER.1 e))];simp only;rw[mz,dS,jR];split
 ·rw[jx,oo (f':=λx=>(x.1,e.vl)) (λx=>rfl)]
 rw[Ev]
theorem vZ(P:List (List En))(i:Nat):Eo (abs P) i=jnb P i:=by
 unfold Eo jnb;rw[dS,dS,Gm,List.length_map,List.length_map]
theorem CU(P:List (List En))(i:Nat):ajn (abs P) i=abs (jnQ P i):=by
 unfold ajn jnQ;rw[dS,dS];simp[abs,List.map_take,List.map_drop]
theorem wg(P:List (List En))(k:List Int):abs (ie P k)=qu (abs P) k:=by
 unfold ie qu;rw[gH];split
 ·rw[mz,dS,jR];unfold rmQ arm;simp only;rw[dS]
  have h:∀ q,(((P.getD (pgi P k) []).map En.kl2).take q ++ ((P.getD (pgi P k) []).map En.kl2).drop (q + 1))=((P.getD (pgi P k) []).take q ++ (P.getD (pgi P k) []).drop (q + 1)).map En.kl2:=λq=>by
   simp[List.map_take,List.map_drop]
  rw[h,<- jx,vZ,vZ,CU,CU];simp only[List.map_eq_nil_iff];split
  ·simp[abs,List.map_take,List.map_drop]
  split
  ·rfl
  split<;>rfl
 rfl
theorem dj(P:List (List En)):(abs P).flatten=P.flatten.map En.kl2:=by
 unfold abs;rw[List.map_flatten]
theorem Az(O:Ord P)(f t:List Int):(wlk P f t).map En.kl2=(abs P).flatten.filter (Ab f t):=by
 rw[EJ O,dj,List.filter_map];rfl
def kP(Q:List (List KV)):Prop:=∃ P,abs P=Q/\Ord P
theorem kP.flat{Q:List (List KV)}(h:kP Q):Q.flatten.Pairwise λx y=>Lt x.1 y.1:=by
 obtain⟨P,rfl,O⟩:=h;rw[dj,List.pairwise_map];exact O.flat
theorem kP.iP{Q:List (List KV)}(h:kP Q)(v:List Int)(hn:gU Q k=false):∃ X Y,Q.flatten=X ++ Y/\(oF Q k v).flatten=X ++ (k,v) :: Y/\(∀ x∈X,Lt x.1 k)/\(∀ y∈Y,Lt k y.1):=by
 obtain⟨P,rfl,O⟩:=h;rw[gH] at hn;obtain⟨X,Y,e1,e2,b,a⟩:=gI O (e:=⟨undef,k,undef,v⟩) hn;refine⟨X.map En.kl2,Y.map En.kl2,by rw[dj,e1,List.map_append],?_,?_,?_⟩
 ·rw[<- rE P ⟨undef,k,undef,v⟩,dj,e2];simp[En.kl2]
 ·intro x hx;obtain⟨e,he,rfl⟩:=List.mem_map.1 hx;exact b e he
 intro x hx;obtain⟨e,he,rfl⟩:=List.mem_map.1 hx;exact a e he
theorem kP.wK{Q:List (List KV)}(h:kP Q)(v:List Int)(hn:gU Q k=true):∃ X x Y,Q.flatten=X ++ (k,x) :: Y/\(oF Q k v).flatten=X ++ (k,v) :: Y:=by
 obtain⟨P,rfl,O⟩:=h;rw[gH] at hn;obtain⟨X,x,Y,e1,hx,e2⟩:=gO O (e:=⟨undef,k,undef,v⟩) hn;refine⟨X.map En.kl2,x.vl,Y.map En.kl2,?_,?_⟩
 ·rw[dj,e1];simp[En.kl2,hx]
 rw[<- rE P ⟨undef,k,undef,v⟩,dj,e2];simp[En.kl2,hx]
theorem kP.FR{Q:List (List KV)}(h:kP Q)(hn:gU Q k=true):∃ X x Y,Q.flatten=X ++ (k,x) :: Y/\(qu Q k).flatten=X ++ Y:=by
 obtain⟨P,rfl,O⟩:=h;rw[gH] at hn;obtain⟨X,x,Y,e1,hx,e2⟩:=ow O hn;refine⟨X.map En.kl2,x.vl,Y.map En.kl2,?_,?_⟩
 ·rw[dj,e1];simp[En.kl2,hx]
 rw[<- wg P k,dj,e2];simp
theorem xS{Q:List (List KV)}(hn:gU Q k=false):qu Q k=Q:=by
 unfold qu;rw[hn];rfl
end
end Pg
end
end Go.Proofs.YtpoifdokmjhclaaGreat
