import Derived.Test.YtidnifmehnjipaaGreatJae
import Derived.Lib.SlBytesConst
set_option maxRecDepth 100000
set_option maxHeartbeats 8000000
namespace Go.Proofs.YtidnifmehnjipaaGreat
section
namespace Kv
open Go.RowKit Go.Lib Pg
attribute [local go_sem] Oper.semAt_some
theorem bC (w:World) (o:Obj):(w.alloc o).heap.size=w.heap.size+1:=by
 show (w.heap.push o).size=_
 rw[Array.size_push]
structure Ste where
 what:Int
 num:Int
 ka:Option Addr
 kc:Nat
 kl:List Int
 va:Option Addr
 vc:Nat
 vl:List Int
theorem cE (w:World):Below w.heap.size w w.drew:=⟨rfl,rfl,rfl,Nat.le_refl _,fun _ _=>rfl⟩
def setd (E:ay) (k v:List Int):ay:=if eH k v=0 then put E k v else E
def chgd (E:ay) (what:Int) (k v:List Int):ay:=if what.tmod 2=0 then setd E k v else rem E k
end Kv
end
section
namespace Kv
open Go.RowKit Go.Lib Pg
theorem iq {X Y:ay} {k v x:List Int} (h:¬ k=x):look (X ++ (k,v) :: Y) x=look (X ++ Y) x:=by
 unfold look;rw[List.find?_append,List.find?_append,List.find?_cons];simp[h]
theorem BO {E:ay} (h:cI E) (k v x:List Int):look (put E k v) x=if k=x then some v else look E x:=by
 obtain⟨X,Y,c,⟨rfl,_⟩ | ⟨y,rfl,_⟩⟩:=h.cut k
 ·rw[c.uO];split
  ·rename_i e;subst e;exact c.oB
  ·rename_i e;exact iq e
 ·rw[c.tU];split
  ·rename_i e;subst e;exact c.oB
  ·rename_i e;rw[iq e,iq e]
theorem zd {E:ay} (h:cI E) (k x:List Int):look (rem E k) x=if k=x then none else look E x:=by
 obtain⟨X,Y,c,⟨rfl,_⟩ | ⟨y,rfl,_⟩⟩:=h.cut k
 ·rw[c.xc];split
  ·rename_i e;subst e;exact c.rX
  ·rfl
 ·rw[c.BC];split
  ·rename_i e;subst e;exact c.rX
  ·rename_i e;rw[iq e]
abbrev jo (s:Ste):Prop:=¬ s.what.tmod 2=0\/(1<=s.kl.length/\s.kl.length<=64/\s.vl.length<=4096)
def run (ss:List Ste):Nat→ay
  | 0=>[]
  | j + 1 => match ss[j]? with
    | some s=>chgd (run ss j) s.what s.kl s.vl
    | none=>run ss j
end Kv
end
section
namespace Kv
open Go.RowKit Go.Lib Pg
attribute [local go_sem] Oper.semAt_some
section
variable {w w':World}{B n c k:Nat}{D:Nat->Prop}{v ov:Value}{es:List En}{e:En}{ao:Option Addr}
structure Pq(w:World)(B:Nat)(D:Nat->Prop)(v:Value)(es:List En):Prop where
 ex:(v=.slice none 0 0/\es=[])\/∃ b c,v=.slice (some ⟨b,0,none⟩) es.length c/\B<=b/\Rw w 96 2 b es.length c (flat es)
 bX:∀ e∈es,EnA w D e
theorem Pq.shape(h:Pq w B D v es):∃ ao c,v=.slice ao es.length c:=by
 rcases h.ex with⟨rfl,rfl⟩ | ⟨b,c,rfl,_⟩
 ·exact⟨none,0,rfl⟩
 ·exact⟨_,c,rfl⟩
theorem Pq.keep(h:Pq w B D v es)(hb:Below w.heap.size w w'):Pq w' B D v es :=
 ⟨h.ex.imp id (fun ⟨b,c,e,hl,hR⟩=>⟨b,c,e,hl,hR.keep hb⟩),fun e he=>(h.bX e he).keep hb⟩
theorem Pq.nil(w:World)(B:Nat)(D:Nat->Prop):Pq w B D (.slice none 0 0) []:=⟨.inl ⟨rfl,rfl⟩,fun _ h=>by simp at h⟩
theorem Pq.a{B0:Nat}(h:Pq w B D v es)(hB:B0<=B)(hD:∀ b,b < w.heap.size->D b->B0<=b):PrA w B0 v es :=
 ⟨h.ex.imp id (fun ⟨b,c,e,hl,hR⟩=>⟨b,c,e,by omega,hR⟩),fun e he=>(h.bX e he).mono hD⟩
theorem Pq.cells{p:Nat}(h:Pq w B D (.slice (some ⟨p,0,none⟩) n c) es)(a:es[k]?=some e):w.cell? ⟨p,k * 2,none⟩=some e.kv/\w.cell? ⟨p,k * 2+1,none⟩=some e.vv/\p < w.heap.size:=by
 rcases h.ex with⟨e1,rfl⟩ | ⟨b,c',e1,hl,hR⟩
 ·simp at a
 ·cases e1;obtain⟨f,d⟩:=qz a;exact⟨hR.cell f,hR.cell d,hR.lt⟩
theorem Pq.some(h:Pq w B D (.slice ao n c) es)(hk:es[k]?=some e):∃ p,ao=Option.some ⟨p,0,none⟩:=by
 rcases h.ex with⟨_,e⟩ | ⟨p,c',e,_⟩
 ·subst e;simp at hk
 ·cases e;exact⟨p,rfl⟩
theorem uu{a:Addr}(ty:TypeId)(h:Pq w B D ov es)(t:B<=w.heap.size)(he:EnA w D e)(y:es.length<=2000000000)(c0:w.cell? (a.add 0)=some e.kv)(c1:w.cell? (a.add 1)=some e.vv) :
  ∃ ov' w',(Builtin.append_ #[30,30] ty #[ov,.slice (some a) 1 1]).run Tryz.prog w=.ok ov' w'/\Pq w' B D ov' (es ++ [e])/\Spr B w w':=by
 have d:∀ j u,[e.kv,e.vv][j]? = some u->w.cell? (a.add j)=some u:=fun j u g=>by
  match j with
  | 0=>simp at g;rw[<- g];exact c0
  | 1=>simp at g;rw[<- g];exact c1
  | k+2=>simp at g
 rcases h.ex with⟨rfl,rfl⟩ | ⟨b,c,rfl,hb,i⟩
 ·obtain⟨o,w',q,i,hw⟩:=er (w:=w) KQ ty a 1 1 [e.kv,e.vv] rfl d (by omega) (by omega) (by omega);refine⟨_,w',q,⟨.inr ⟨_,o,rfl,t,i⟩,fun x hx=>?_⟩,Spr.of hw⟩;simp at hx;subst hx;exact he.keep hw
 ·obtain⟨z,nk,n⟩:=he.k.shape;obtain⟨A,nv,p⟩:=he.v.shape;obtain⟨s,o,w',q,r,l,hw⟩:=dh (w:=w) KQ ty i a 1 1 [e.kv,e.vv] rfl d (by rw[n,p];simp[Value.oneCell']) (by omega) (by omega);obtain⟨m,k0⟩:=i.kind
  have hS:Spr B w w':=⟨hw.mono (fun x _ ex=>⟨ex▸hb,m,ex▸k0⟩)⟩
  refine⟨_,w',q,⟨.inr ⟨s,o,by simp,by rcases r with rfl | rfl<;>assumption,by rw[df,List.length_append];exact l⟩,fun x hx=>?_⟩,hS⟩
  have f:EnA w D x:=by
   rcases List.mem_append.1 hx with hx | hx
   ·exact h.bX x hx
   ·simp at hx;rw[hx];exact he
  exact⟨hS.ob f.k,hS.ob f.v⟩
theorem eh(h:Spr B w w')(hB:B<=w.heap.size):Below B w w':=h.chg.below (fun _ h=>h.1) hB
theorem lit2(w:World)(u v:Value)(t:TypeId):(w.alloc (.cells #[u,v] t)).cell? ((⟨w.heap.size,0,none⟩:Addr).add 0)=some u/\(w.alloc (.cells #[u,v] t)).cell? ((⟨w.heap.size,0,none⟩:Addr).add 1)=some v:=by
 have h:=aj w [u,v] t;exact⟨h.cell (i:=0) rfl,h.cell (i:=1) rfl⟩
theorem Bv(h:Pq w B D ov es)(b:B<=w.heap.size)(he:EnA w D e)(c:es.length<=2000000000) :
  ∃ ov' w',(Builtin.append_ #[30,30] 30 #[ov,.slice (some ⟨w.heap.size,0,none⟩) 1 1]).run Tryz.prog (w.alloc (.cells #[e.kv,e.vv] 96))=.ok ov' w'/\Pq w' B D ov' (es ++ [e])/\Below B w w':=by
 have hb:=af w (.cells #[e.kv,e.vv] 96);obtain⟨c0,c1⟩:=lit2 w e.kv e.vv 96;obtain⟨ov',w',d,f,hS⟩:=uu (a:=⟨w.heap.size,0,none⟩) 30 (h.keep hb) (Nat.le_trans b hb.size) (he.keep hb) c c0 c1;exact⟨ov',w',d,f,(hb.mono b).trans (eh hS (Nat.le_trans b hb.size))⟩
end
section
variable {E:ay}{k:List Int}{j i m:Nat}{es:List En}{x y:En}{w:World}{D:Nat->Prop}{ka pa:Option Addr}
def cnt(E:ay)(k:List Int):Nat:=(E.filter (fun x=>decide (Lt x.1 k))).length
theorem cnt_eq(d:j<=E.length)(b:∀ i x,i < j->E[i]?=some x->Lt x.1 k)(a:∀ i x,j<=i->E[i]?=some x->¬ Lt x.1 k):cnt E k=j:=by
 unfold cnt
 have e:E=E.take j ++ E.drop j:=(List.take_append_drop j E).symm;rw[e,List.filter_append,db,dX,List.append_nil,List.length_take,Nat.min_eq_left d]
 ·intro x hx;obtain⟨i,hi⟩:=List.getElem?_of_mem hx;rw[List.getElem?_drop] at hi;exact decide_eq_false (a _ x (by omega) hi)
 ·intro x hx;obtain⟨i,hi⟩:=List.getElem?_of_mem hx;have c:=(List.getElem?_eq_some_iff.1 hi).1;rw[List.length_take] at c;rw[List.getElem?_take,if_pos (by omega)] at hi;exact decide_eq_true (b i x (by omega) hi)
theorem kB(E:ay)(k:List Int):cnt E k<=E.length:=List.length_filter_le _ _
theorem ju(h:cI E)(k:List Int):(look E k).isSome=(match E[cnt E k]? with | some x=>decide (x.1=k) | none=>false)/\(∀ x,E[cnt E k]?=some x->x.1=k->look E k=some x.2)/\put E k=(fun v=>E.take (cnt E k) ++ (k,v) :: E.drop (cnt E k+if (look E k).isSome then 1 else 0))/\rem E k=E.take (cnt E k) ++ E.drop (cnt E k+if (look E k).isSome then 1 else 0):=by
 obtain⟨X,Y,c,⟨rfl,a⟩ | ⟨y,rfl,a⟩⟩:=h.cut k
 ·have hc:cnt (X ++ Y) k=X.length:=by
   unfold cnt;rw[List.filter_append,db (fun x hx=>decide_eq_true (c.lo x hx)),dX (fun x hx=>decide_eq_false (fun h=>(c.hi x hx).not h)),List.append_nil]
  rw[hc,a];refine⟨?_,fun x hx e=>?_,?_,?_⟩
  ·rw[List.getElem?_append_right (Nat.le_refl _),Nat.sub_self]
   cases Y with
   | nil=>rfl
   | cons y Y=>simp[c.ny y List.mem_cons_self]
  ·rw[List.getElem?_append_right (Nat.le_refl _),Nat.sub_self] at hx;exact absurd e (c.ny x (List.mem_of_getElem? hx))
  ·funext v
   rw[c.uO];simp
  ·rw[c.xc];simp
 ·have hc:cnt (X ++ (k,y) :: Y) k=X.length:=by
   unfold cnt;rw[List.filter_append,db (fun x hx=>decide_eq_true (c.lo x hx)),List.filter_cons,if_neg (by simp[lt_irrefl]),dX (fun x hx=>decide_eq_false (fun h=>(c.hi x hx).not h)),List.append_nil]
  rw[hc,a];refine⟨?_,fun x hx _=>?_,?_,?_⟩
  ·rw[List.getElem?_append_right (Nat.le_refl _),Nat.sub_self];simp
  ·rw[List.getElem?_append_right (Nat.le_refl _),Nat.sub_self] at hx;simp at hx;rw[<- hx]
  ·funext v
   rw[c.tU];simp
  ·rw[c.BC];simp
theorem wb(h:cI (es.map En.kl2)){a b:En}(c:i < j)(e:es[i]?=some a)(hb:es[j]?=some b):Lt a.kl b.kl:=by
 unfold cI at h;rw[List.pairwise_map] at h;obtain⟨f,e1⟩:=List.getElem?_eq_some_iff.1 e;obtain⟨d,e2⟩:=List.getElem?_eq_some_iff.1 hb;have:=List.pairwise_iff_getElem.1 h i j f d c;rw[e1,e2] at this;exact this
theorem CA(h:cI (es.map En.kl2))(hx:es[m]?=some x)(a:Lt x.kl k)(hi:i < m+1)(hy:es[i]?=some y):Lt y.kl k:=by
 by_cases e:i=m
 ·subst e;rw[hx] at hy
  cases hy;exact a
 ·exact Lt.trans (wb h (by omega) hy hx) a
theorem EC(h:cI (es.map En.kl2))(hx:es[m]?=some x)(a:¬ Lt x.kl k)(hi:m<=i)(hy:es[i]?=some y):¬ Lt y.kl k:=by
 by_cases e:m=i
 ·subst e;rw[hx] at hy
  cases hy;exact a
 ·exact fun hc=>a (Lt.trans (wb h (by omega) hx hy) hc)
theorem uy{z:KV}(h:(es.map En.kl2)[i]?=some z):∃ x,es[i]?=some x/\z=x.kl2:=by
 rw[List.getElem?_map] at h
 cases e:es[i]? with
 | none=>rw[e] at h;cases h
 | some x=>rw[e] at h;cases h;exact⟨x,rfl,rfl⟩
theorem uC{B q:Nat}{lv wv kv:Value}{nd:Int}(L:Blk w q [lv,wv,.int .i64 nd] 33)(g:Pq w B D lv es)(W:cI (es.map En.kl2))(P:By w kv k)(R:k.length<=1000000000)(U:∀ e∈es,e.kl.length<=1000000000)(hm:es.length=m)(hmb:m<=1000000) :
  Calls Tryz.prog 35 #[.pointer (some ⟨q,0,none⟩),kv] w fun e w'=>e=.returned (.tuple #[.int .i64 (cnt (es.map En.kl2) k),.bool (look (es.map En.kl2) k).isSome])/\Below w.heap.size w w':=by
 obtain⟨ao,c,rfl⟩:=g.shape;obtain⟨ka,kc,rfl,-⟩:=id P.ex;rw[hm] at g L;have E:=ah hm;have hc0:=L.drew.cell (i:=0) rfl;have Z:=ah L;have v:=ah g;have S:=ah W;have Q:=ah P;have K:=ah U;have hql:=ah L.lt;clear L g W P U hm;obtain⟨kn,A⟩:∃ kn,Hid (k.length=kn):=⟨_,rfl⟩
 rw[A.out] at Q R ⊢;go_enter Tryz.func35,Tryz.ntmps35;go_wp2_with fail;go_region;go_wp2_with fail;go_loopw [6,7] (fun tl M wr=>∃ lo hi:Nat,lo<=hi/\hi<=m/\tl=.int .i64 lo/\M=.int .i64 hi/\Hid (∀ i x,i < lo->es[i]?=some x->Lt x.kl k)/\Hid (∀ i x,hi<=i->es[i]?=some x->¬ Lt x.kl k)/\Hid (Below w.heap.size w wr)) (fun tl M _=>(intOf M).toNat - (intOf tl).toNat)
 case atStart=>exact⟨0,m,Nat.zero_le _,Nat.le_refl _,rfl,rfl,fun i x h=>absurd h (Nat.not_lt_zero _),fun i x h hx=>absurd (List.getElem?_eq_some_iff.1 hx).1 (by have:=E.out;omega),⟨rfl,rfl,rfl,Nat.le_refl _,fun _ _=>rfl⟩⟩
 case round =>
  obtain⟨lo,hi,hlh,I,rfl,rfl,H1,V,d⟩:=hrel;have hc1:=(Z.out.keep d.out).cell (i:=0) rfl;by_cases aa:lo < hi
  ·obtain⟨md,l⟩:∃ md,Hid ((lo+hi) / 2=md):=⟨_,rfl⟩
   have hm1:lo<=md:=by rw[<- l.out];omega
   have ab:md < hi:=by rw[<- l.out];omega
   have e1:((lo:Int)+hi) / 2=md:=by have:=l.out;omega
   have e2:((lo:Int)+hi).tdiv 2=md:=by rw[Int.tdiv_eq_ediv_of_nonneg (by omega)];exact e1
   obtain⟨x,hx⟩:∃ x,Hid (es[md]?=some x):=⟨es[md]'(by have:=E.out;omega),List.getElem?_eq_getElem _⟩
   obtain⟨p,rfl⟩:=v.out.some hx.out;have X:=(v.out.keep d.out).bX x (List.mem_of_getElem? hx.out);obtain⟨c1,_,_⟩:=(v.out.keep d.out).cells hx.out;obtain⟨a1,n1,u⟩:=X.k.shape;rw[u] at c1;have o:=X.k.by
   rw[u] at o;have J:=ah o;have n:=K.out x (List.mem_of_getElem? hx.out);obtain⟨C,f⟩:∃ C,Hid (x.kl.length=C):=⟨_,rfl⟩
   rw[f.out] at c1 J n
   have Y:(lo:Int) < hi:=by omega
   have O:(md:Int) < m:=by omega
   clear X o u;have hle:=ES J.out (Q.out.keep d.out) (by rw[f.out];omega);by_cases g:Lt x.kl k
   ·rw[decide_eq_true g] at hle
    have s:=ah g;clear g;go_wp2_with (go_at_call 87;go_must (refine hle.mono ?_);rintro e T ⟨rfl,F⟩;clear hle);go_roundw
    case rel=>exact⟨md+1,hi,by omega,I,by go_num,rfl,(fun i y h hy=>CA S.out hx.out s.out h hy),V,d.out.trans (F.mono d.out.size)⟩
    case measure=>simp[intOf];omega
   ·rw[decide_eq_false g] at hle
    have s:=ah g;clear g;go_wp2_with (go_at_call 87;go_must (refine hle.mono ?_);rintro e T ⟨rfl,F⟩;clear hle);go_roundw
    case rel=>exact⟨lo,md,by omega,by omega,rfl,by go_num,H1,(fun i y h hy=>EC S.out hx.out s.out h hy),d.out.trans (F.mono d.out.size)⟩
    case measure=>simp[intOf];omega
  ·obtain rfl:lo=hi:=by omega
   have j:=ah (show cnt (es.map En.kl2) k=lo from cnt_eq (by rw[List.length_map,E.out];exact I) (fun i z h N=>by obtain⟨x,hx,rfl⟩:=uy N;exact H1.out i x h hx) (fun i z h N=>by obtain⟨x,hx,rfl⟩:=uy N;exact V.out i x h hx));have b:=(ju S.out k).1;rw[j.out] at b;by_cases ac:lo < m
   ·obtain⟨x,hx⟩:∃ x,Hid (es[lo]?=some x):=⟨es[lo]'(by have:=E.out;omega),List.getElem?_eq_getElem _⟩
    have H:(es.map En.kl2)[lo]?=some x.kl2:=by rw[List.getElem?_map,hx.out];rfl
    rw[H] at b;have t:=ah (show (look (es.map En.kl2) k).isSome=decide (x.kl=k) from b);clear b H;obtain⟨p,rfl⟩:=v.out.some hx.out;have X:=(v.out.keep d.out).bX x (List.mem_of_getElem? hx.out);obtain⟨c1,_,_⟩:=(v.out.keep d.out).cells hx.out;obtain⟨a1,n1,u⟩:=X.k.shape;rw[u] at c1;have o:=X.k.by
    rw[u] at o;have J:=ah o;have n:=K.out x (List.mem_of_getElem? hx.out);obtain⟨C,f⟩:∃ C,Hid (x.kl.length=C):=⟨_,rfl⟩
    rw[f.out] at c1 J n
    have O:(lo:Int) < m:=by omega
    have r:=Pg.ec J.out (Q.out.keep d.out) (by rw[f.out];omega) (by rw[A.out];omega);obtain⟨bb,G⟩:∃ bb,Hid (decide (x.kl=k)=bb):=⟨_,rfl⟩
    rw[G.out] at r
    clear X o u;go_wp2_with (go_at_call 61;go_must (refine r.mono ?_);rintro e T ⟨rfl,F⟩;clear r);go_ret2;rw[j.out,t.out,G.out];exact⟨rfl,d.out.trans (F.mono d.out.size)⟩
   ·have H:(es.map En.kl2)[lo]? = none:=List.getElem?_eq_none (by rw[List.length_map,E.out]; omega);rw[H] at b;have t:=ah (show (look (es.map En.kl2) k).isSome=false from b);clear b H;obtain rfl:lo=m:=by omega
    go_wp2;go_ret2;rw[j.out,t.out];exact⟨rfl,d.out⟩
theorem Ea{n c d:Nat}{p:List Int}(g:By w (.slice ka n c) k)(i:By w (.slice pa m d) p)(_hkl:k.length<=1000000000)(b:p.length<=1000000000) :
  Calls Tryz.prog 209 #[.slice ka n c,.slice pa m d] w fun e w'=>e=.returned (.bool (decide (p <+: k)))/\Below w.heap.size w w':=by
 obtain⟨o,y,_⟩:=By.lens g;obtain⟨l,_,_⟩:=By.lens i;have v:=ah g;have x:=ah i;rw[l] at b;have H1:=ah o;have f:=ah l;clear g i o l;by_cases q:m<=n
 ·have j:(m:Int)<=n:=by omega
  have u:=Pg.ec (By.take v.out m q) x.out (by rw[List.length_take];have:=H1.out;omega) (by rw[f.out];exact b);have he:=ah (show decide (k.take m=p)=decide (p <+: k) by rw[decide_eq_decide,List.prefix_iff_eq_take,f.out];exact eq_comm);rw[he.out] at u;obtain⟨r,t⟩:∃ r,Hid (decide (p <+: k)=r):=⟨_,rfl⟩
  rw[t.out] at u ⊢;go_enter Tryz.func209,Tryz.ntmps209;go_wp2_with (go_at_call 61;go_must (refine u.mono ?_);rintro e z ⟨rfl,s⟩;clear u);go_ret;exact⟨rfl,s⟩
 ·have j:((m:Int)<=n)=False:=eq_false (by omega)
  have hf:decide (p <+: k)=false:=decide_eq_false (fun h=>q (by have:=h.length_le;rw[H1.out,f.out] at this;exact this));rw[hf];go_enter Tryz.func209,Tryz.ntmps209;go_wp2;go_ret;exact⟨rfl,Below.refl _ _⟩
end
section
variable {w w':World}{z X Y X':Nat->Prop}{v wv kv:Value}{F E:ay}{W:List ay}{q n:Nat}{k:List Int}
structure Pl(w:World)(z:Nat->Prop)(X:Nat->Prop)(v:Value)(F:ay):Prop where
 ex:∃ es,Pq w 0 z v es/\es.map En.kl2=F
 blk:∀ b m c,v=.slice (some ⟨b,0,none⟩) m c->X b
theorem Pl.chg(h:Pl w z X v F)(hc:Chg Y w w')(m:∀ b,Y b->X b->∃ cs t,Blk w b cs t/\t≠96)(i:∀ b,Y b->∀ cs,¬ Blk w b cs 5):Pl w' z X v F:=by
 obtain⟨es,P,e⟩:=h.ex;refine⟨⟨es,⟨P.ex.imp id ?_,fun e he=>(P.bX e he).off fun b hb a=>hc.same b hb fun d=>by obtain⟨cs,k⟩:=a;exact i b d cs k⟩,e⟩,h.blk⟩;rintro⟨b,c,ev,g,f⟩;refine⟨b,c,ev,g,f.chg hc fun d=>?_⟩;obtain⟨cs,t,a,j⟩:=m b d (h.blk b _ _ ev);obtain⟨n,l⟩:=f.kind;exact j (a.eq l).2
theorem Pl.mono(h:Pl w z X v F)(hX:∀ b,X b->X' b):Pl w z X' v F:=⟨h.ex,fun b m c e=>hX b (h.blk b m c e)⟩
structure WsA(w:World)(z:Nat->Prop)(X:Nat->Prop)(wv:Value)(W:List ay):Prop where
 ex:(wv=.slice none 0 0/\W=[])\/∃ b c vs,wv=.slice (some ⟨b,0,none⟩) W.length c/\X b/\Rw w 30 1 b W.length c vs/\∀ (i:Nat) v F,vs[i]?=some v->W.reverse[i]?=some F->Pl w z X v F
theorem WsA.chg(h:WsA w z X wv W)(hc:Chg Y w w')(d:∀ b,Y b->X b->∃ cs t,Blk w b cs t/\t≠96/\t≠30)(g:∀ b,Y b->∀ cs,¬ Blk w b cs 5):WsA w' z X wv W:=by
 refine⟨h.ex.imp id ?_⟩;rintro⟨b,c,n,e,a,f,r⟩;refine⟨b,c,n,e,a,f.chg hc fun p=>?_,fun i v F q o=>(r i v F q o).chg hc (fun b hy hx=>by obtain⟨cs,t,k,t1,_⟩:=d b hy hx;exact⟨cs,t,k,t1⟩) g⟩;obtain⟨cs,t,m,_,j⟩:=d b p a;obtain⟨s,l⟩:=f.kind;exact j (m.eq l).2
structure RS(w:World)(z:Nat->Prop)(X:Nat->Prop)(q:Nat)(E:ay)(W:List ay)(n:Nat):Prop where
 ex:∃ lv wv,Blk w q [lv,wv,.int .i64 n] 33/\Pl w z X lv E/\WsA w z X wv W
 xq:X q
 xz:∀ b,X b->z b/\b < w.heap.size
 dA:cI E
 small:∀ x∈E,x.1.length<=1000000000/\x.2.length<=1000000000
theorem RS.chg(h:RS w z X q E W n)(hc:Chg Y w w')(a:∀ b,Y b->¬ X b)(c:∀ b,Y b->∀ cs,¬ Blk w b cs 5):RS w' z X q E W n:=by
 obtain⟨f,e,hb,d,hw⟩:=h.ex;exact⟨⟨f,e,hb.chg hc (fun hy=>a q hy h.xq),d.chg hc (fun b hy hx=>absurd hx (a b hy)) c,hw.chg hc (fun b hy hx=>absurd hx (a b hy)) c⟩,h.xq,fun b hx=>⟨(h.xz b hx).1,Nat.lt_of_lt_of_le (h.xz b hx).2 hc.size⟩,h.dA,h.small⟩
theorem RS.keep(h:RS w z X q E W n)(hb:Below w.heap.size w w'):RS w' z X q E W n:=h.chg (Chg.of (F:=fun _=>False) hb) (fun _ h=>h.elim) (fun _ h=>h.elim)
theorem RS.done{m:Nat}(h:RS w z X q E W n):RS (w.setCell ⟨q,2,none⟩ (.int .i64 (m:Nat))) z X q E W m/\Chg (·=q) w (w.setCell ⟨q,2,none⟩ (.int .i64 (m:Nat))):=by
 obtain⟨f,d,hb,c,hw⟩:=h.ex
 have hc:Chg (·=q) w (w.setCell ⟨q,2,none⟩ (.int .i64 (m:Nat))):=(Chg.refl (fun x=>x=q) w).cell (.inl rfl) _
 have a:∀ b,b=q->∀ cs,¬ Blk w b cs 5:=fun b e cs k=>by subst e;exact absurd (hb.eq k).2 (by decide)
 exact⟨⟨⟨f,d,hb.setCell (i:=2) _,c.chg hc (fun b e _=>by subst e;exact⟨_,_,hb,by decide⟩) a,hw.chg hc (fun b e _=>by subst e;exact⟨_,_,hb,by decide,by decide⟩) a⟩,h.xq,fun b hx=>⟨(h.xz b hx).1,Nat.lt_of_lt_of_le (h.xz b hx).2 hc.size⟩,h.dA,h.small⟩,hc⟩
structure FinRG(w:World)(z:Nat->Prop)(X:Nat->Prop)(q:Nat)(E:ay)(W:List ay)(n:Nat)(b:Bool)(l:List Int)(e:Ending)(w':World):Prop where
 ex:∃ v,e=.returned (.tuple #[v,.bool b])/\OB w' (w.heap.size <= ·) v l/\RS w' z X q E W n/\Chg (·=q) w w'
theorem rget(h:RS w z X q E W n)(hk:By w kv k)(Y:k.length<=1000000000)(J:By (w.setCell ⟨q,2,none⟩ (.int .i64 ((n+1:Nat):Int))) kv k)(hn:n<=4000000000000000000)(hm:E.length<=1000000) :
  Calls Tryz.prog 98 #[.pointer (some ⟨q,0,none⟩),kv] w (FinRG w z X q E W (n+1) (look E k).isSome ((look E k).getD [])):=by
 obtain⟨lv,wv,hb,-,-⟩:=h.ex;obtain⟨O,C1⟩:=h.done (m:=n+1);obtain⟨lv1,wv1,g,s,-⟩:=O.ex;obtain⟨es,P,he⟩:=s.ex
 have u:es.length=E.length:=by rw[<- he,List.length_map]
 have up:=uC (m:=E.length) g P (by rw[he];exact h.dA) J Y (fun e hx=>(h.small e.kl2 (by rw[<- he];exact List.mem_map_of_mem hx)).1) u hm;rw[he] at up;obtain⟨f,Q,-,-⟩:=ju h.dA k;obtain⟨ka,kc,rfl,-⟩:=id hk.ex;obtain⟨kn,B⟩:∃ kn,Hid (k.length=kn):=⟨_,rfl⟩
 obtain⟨lo,D⟩:∃ lo,Hid (cnt E k=lo):=⟨_,rfl⟩
 rw[B.out,D.out] at up;rw[D.out] at f Q;rw[B.out];have d2:=hb.cell (i:=2) rfl;have f2:=hb.free 2
 have e5:((n:Int)+1)=((n+1:Nat):Int):=by omega
 obtain⟨W1,I⟩:∃ W1,Hid (w.setCell ⟨q,2,none⟩ (.int .i64 ((n+1:Nat):Int))=W1):=⟨_,rfl⟩
 have hW2:w.setCell ⟨q,2,none⟩ (.int .i64 ((n:Int)+1))=W1:=by rw[e5];exact I.out
 rw[I.out] at up O C1 g P;have H:=ah O;have t:=ah C1;have M:=ah P;have K:=ah g
 have l:=ah u
 have C:=ah he;have R:=ah h.small;clear O C1 P g hb h hk J s he u e5
 cases hl:look E k with
 | none =>
  rw[hl] at up f
  have r:=ah up;clear f Q up;go_enter Tryz.func98,Tryz.ntmps98;go_wp2_with (go_at_call 35;go_must (refine r.out.mono ?_);rintro e w2 ⟨rfl,d⟩);go_ret2;exact⟨_,rfl,⟨(fun _ h=>by cases h),.inl ⟨rfl,rfl⟩⟩,H.out.keep d,t.out.trans (Chg.of (F:=fun _=>False) d) (fun _ _ h=>h.elim)⟩
 | some x =>
  rw[hl] at up f
  have hx:∃ y,E[lo]?=some y/\y.1=k:=by
   cases e:E[lo]? with
   | none=>rw[e] at f;cases f
   | some y=>rw[e] at f;exact⟨y,rfl,by simpa using f.symm⟩
  obtain⟨y,hy,L⟩:=hx;have A:=Q y hy L;rw[hl] at A
  have j:y.2=x:=by cases A;rfl
  rw[<- C.out] at hy;obtain⟨e1,c,rfl⟩:=uy hy;obtain⟨av,cv,dv⟩:=M.out.shape;rw[l.out] at dv;subst dv;obtain⟨p,rfl⟩:=M.out.some c
  have N:lo < E.length:=by have:=(List.getElem?_eq_some_iff.1 c).1;rw[l.out] at this;exact this
  obtain⟨m,T⟩:∃ m,Hid (E.length=m):=⟨_,rfl⟩
  rw[T.out] at N M K hm
  have s:(lo:Int) < m:=by omega
  have S:=(R.out e1.kl2 (by rw[<- C.out];exact List.mem_map.2 ⟨e1,List.mem_of_getElem? c,rfl⟩)).2
  have r:=ah up
  have o:=ah c;have G:=ah j;clear f Q up hy L A j c;go_enter Tryz.func98,Tryz.ntmps98;go_wp2_with first
   | (go_at_call 35;go_must (refine r.out.mono ?_);rintro e w2 ⟨rfl,d⟩;have c0:=(K.out.keep d).cell (i:=0) rfl;have V:=(M.out.keep d).bX e1 (List.mem_of_getElem? o.out);obtain⟨_,cV,_⟩:=(M.out.keep d).cells o.out;obtain⟨a1,n1,Z⟩:=V.v.shape;rw[Z] at cV;have U:=V.v.by;rw[Z] at U;have HY:=ah U;clear V U Z)
   | (go_at_call 36;go_must (refine(Pg.fB HY.out S).mono ?_);rintro e w3 ⟨v3,rfl,O3,B3⟩)
  go_ret2;rw[<- G.out];exact⟨v3,rfl,O3.mono (fun b _ hb=>Nat.le_trans (Nat.le_trans t.out.size d.size) hb),(H.out.keep d).keep B3,t.out.trans (Chg.of (F:=fun _=>False) (ai d B3)) (fun _ _ h=>h.elim)⟩
end
section
variable {w w':World}{z X D Y:Nat->Prop}{q n B k:Nat}{E:ay}{W:List ay}{lv wv v ov:Value}{es:List En}{P:List Int->Bool}{x:En}
structure RO(w:World)(z:Nat->Prop)(X:Nat->Prop)(q:Nat)(lv wv:Value)(es:List En)(W:List ay)(n:Nat):Prop where
 top:Blk w q [lv,wv,.int .i64 n] 33
 row:Pq w 0 z lv es
 blk:∀ b m c,lv=.slice (some ⟨b,0,none⟩) m c->X b
 was:WsA w z X wv W
 xq:X q
 xz:∀ b,X b->z b/\b < w.heap.size
theorem RS.ro(h:RS w z X q E W n):∃ lv wv es,RO w z X q lv wv es W n/\es.map En.kl2=E:=by
 obtain⟨lv,wv,hb,hl,hw⟩:=h.ex;obtain⟨es,P,e⟩:=hl.ex;exact⟨lv,wv,es,⟨hb,P,hl.blk,hw,h.xq,h.xz⟩,e⟩
theorem RO.rs(h:RO w z X q lv wv es W n)(e:es.map En.kl2=E)(a:cI E)(b:∀ x∈E,x.1.length<=1000000000/\x.2.length<=1000000000):RS w z X q E W n :=
 ⟨⟨lv,wv,h.top,⟨⟨es,h.row,e⟩,h.blk⟩,h.was⟩,h.xq,h.xz,a,b⟩
theorem re(h:Pq w B D v es)(hc:Chg Y w w')(i:∀ b m c,v=.slice (some ⟨b,0,none⟩) m c->¬ Y b)(d:∀ b,Y b->∀ cs,¬ Blk w b cs 5):Pq w' B D v es :=
 ⟨h.ex.imp id (fun ⟨b,c,e,a,g⟩=>⟨b,c,e,a,g.chg hc (i b _ _ e)⟩),fun e he=>(h.bX e he).off fun b hb f=>hc.same b hb fun j=>by obtain⟨cs,k⟩:=f;exact d b j cs k⟩
theorem RO.chg(h:RO w z X q lv wv es W n)(hc:Chg Y w w')(a:∀ b,Y b->¬ X b)(d:∀ b,Y b->∀ cs,¬ Blk w b cs 5):RO w' z X q lv wv es W n :=
 ⟨h.top.chg hc (fun hy=>a q hy h.xq),re h.row hc (fun b m c e hy=>a b hy (h.blk b m c e)) d,h.blk,h.was.chg hc (fun b hy hx=>absurd hx (a b hy)) d,h.xq,fun b hx=>⟨(h.xz b hx).1,Nat.lt_of_lt_of_le (h.xz b hx).2 hc.size⟩⟩
theorem RO.keep(h:RO w z X q lv wv es W n)(hb:Below w.heap.size w w'):RO w' z X q lv wv es W n:=h.chg (Chg.of (F:=fun _=>False) hb) (fun _ h=>h.elim) (fun _ h=>h.elim)
theorem RO.noU(h:RO w z X q lv wv es W n):∀ b,b=q->∀ cs,¬ Blk w b cs 5:=fun b e cs k=>by subst e;exact absurd (h.top.eq k).2 (by decide)
theorem RO.done{m:Nat}(h:RO w z X q lv wv es W n):RO (w.setCell ⟨q,2,none⟩ (.int .i64 (m:Nat))) z X q lv wv es W m/\Chg (·=q) w (w.setCell ⟨q,2,none⟩ (.int .i64 (m:Nat))):=by
 have hc:Chg (·=q) w (w.setCell ⟨q,2,none⟩ (.int .i64 (m:Nat))):=(Chg.refl (fun x=>x=q) w).cell (.inl rfl) _;refine⟨⟨h.top.setCell (i:=2) _,re h.row hc (fun b m c e hy=>?_) h.noU,h.blk,h.was.chg hc (fun b e _=>by subst e;exact⟨_,_,h.top,by decide,by decide⟩) h.noU,h.xq,fun b hx=>⟨(h.xz b hx).1,Nat.lt_of_lt_of_le (h.xz b hx).2 hc.size⟩⟩,hc⟩
 have a:b=q:=hy;subst a;rcases h.row.ex with⟨e1,_⟩ | ⟨b',c',e1,_,hR⟩
 ·rw[e1] at e;cases e
 ·rw[e1] at e
  cases e;obtain⟨f,d⟩:=hR.kind;exact absurd (h.top.eq d).2 (by decide)
theorem wR{e:En}(h:Pq w B D ov es)(f:B<=w.heap.size)(he:EnA w D e)(b:es.length<=2000000000) :
  ∃ ov' w',(Builtin.append_ #[30,30] 30 #[ov,.slice (some ⟨w.heap.size,0,none⟩) 1 1]).run Tryz.prog (w.alloc (.cells #[e.kv,e.vv] 96))=.ok ov' w'/\Pq w' B D ov' (es ++ [e])/\Spr B (w.alloc (.cells #[e.kv,e.vv] 96)) w':=by
 have hb:=af w (.cells #[e.kv,e.vv] 96);obtain⟨c0,c1⟩:=lit2 w e.kv e.vv 96;obtain⟨ov',w',c,d,hS⟩:=uu (a:=⟨w.heap.size,0,none⟩) 30 (h.keep hb) (Nat.le_trans f hb.size) (he.keep hb) b c0 c1;exact⟨ov',w',c,d,hS⟩
theorem RO.spr(h:RO w z X q lv wv es W n)(hS:Spr B w w')(a:∀ b,X b->b < B):RO w' z X q lv wv es W n :=
 h.chg hS.chg (fun b hy hx=>by have:=a b hx; have:=hy.1; omega) (fun b ⟨_,cs,k⟩ d c=>by
  have:=(k.eq c).2;revert this
  decide)
def flg(P:List Int->Bool)(es:List En):List En:=es.filter (fun e=>P e.kl)
theorem D7(h:es[k]?=some x)(hp:P x.kl=true):flg P (es.take (k+1))=flg P (es.take k) ++ [x]:=by
 unfold flg;rw[List.take_add_one,h,List.filter_append];simp[hp]
theorem flg_no(h:es[k]?=some x)(hp:P x.kl=false):flg P (es.take (k+1))=flg P (es.take k):=by
 unfold flg;rw[List.take_add_one,h,List.filter_append];simp[hp]
theorem CE(P:List Int->Bool)(es:List En)(k:Nat):(flg P (es.take k)).length<=k:=by
 unfold flg;have h1:=List.length_filter_le (fun e:En=>P e.kl) (es.take k);have h2:=List.length_take_le k es;omega
theorem DX(P:List Int->Bool)(es:List En):(flg P es).map En.kl2=(es.map En.kl2).filter (fun x=>P x.1):=by
 unfold flg
 induction es with
 | nil=>rfl
 | cons e es ih =>
  simp only[List.filter_cons,List.map_cons]
  cases h:P e.kl
  ·rw[if_neg (by simp),if_neg (by show ¬ P (En.kl2 e).1=true;rw[show P (En.kl2 e).1=false from h];simp),ih]
  ·rw[if_pos rfl,if_pos (show P (En.kl2 e).1=true from h),List.map_cons,ih]
theorem vp{j most:Nat}(h:es.length<=j\/(flg P (es.take j)).length=most)(a:(flg P (es.take j)).length<=most):(flg P (es.take j)).map En.kl2=((es.map En.kl2).filter (fun x=>P x.1)).take most:=by
 rw[<- DX,<- List.map_take];congr 1
 rcases h with h | h
 ·rw[List.take_of_length_le h] at a ⊢;rw[List.take_of_length_le a]
 ·have e:flg P es=flg P (es.take j) ++ flg P (es.drop j):=by
   unfold flg;rw[<- List.filter_append,List.take_append_drop]
  have e2:(flg P (es.take j) ++ flg P (es.drop j)).take most=flg P (es.take j):=by
   rw[<- h,List.take_left'];rfl
  rw[e,e2]
end
section
variable {w:World}{z X:Nat→Prop}{W:List ay}{pv:Value}{p:List Int}
structure FinRW(w:World)(z:Nat->Prop)(X:Nat->Prop)(q:Nat)(E:ay)(W:List ay)(n:Nat)(F:ay)(e:Ending)(w':World):Prop where
 ex:∃ v es,e=.returned v/\Pq w' w.heap.size z v es/\es.map En.kl2=F/\RS w' z X q E W (n+F.length)/\Chg (·=q) w w'
theorem Ej{q n most:Nat}{E:ay}(h:RS w z X q E W n)(hp:BK w (·=q) pv p)(Q:p.length≤1000000000)(hn:n≤3000000000000000000)(hm:E.length≤1000000)(hmo:most≤1000000) :
    Calls Tryz.prog 156 #[.pointer (some ⟨q,0,none⟩),pv,.int .i64 most] w (FinRW w z X q E W (n+1) ((E.filter (fun x=>decide (p <+: x.1))).take most)):=by
  obtain⟨lv,wv,es,R,he⟩:= h.ro;obtain⟨R1,C1⟩:= R.done (m:=n+1);obtain⟨pa,pc,rfl⟩:= hp.shape;obtain⟨av,cv,dv⟩:= R.row.shape;subst dv;obtain⟨m,u⟩:∃ m,Hid (es.length=m):=⟨_,rfl⟩
  have hmm : m ≤ 1000000 := by rw[← u.out]; have : es.length = E.length := by rw[← he, List.length_map]
                               omega
  rw[u.out] at R R1;have d2:=R.top.cell (i:=2) rfl;have f2:=R.top.free 2
  have e5:((n:Int)+1)=((n+1:Nat):Int):=by omega
  obtain⟨W1,O⟩:∃ W1,Hid (w.setCell ⟨q,2,none⟩ (.int .i64 ((n+1:Nat):Int))=W1):=⟨_,rfl⟩
  have hW2:w.setCell ⟨q,2,none⟩ (.int .i64 ((n:Int)+1))=W1:=by rw[e5];exact O.out
  rw[O.out] at R1 C1;have HR1:=ah R1;have HC1:=ah C1;have y:=ah he;have HP:=ah hp;have Z:=ah (fun b (hx:X b)=>(R.xz b hx).2);have U:=ah h.dA;have D:=ah h.small;obtain⟨pn,aa⟩:∃ pn,Hid (p.length=pn):=⟨_,rfl⟩;rw[aa.out] at HP Q ⊢;clear R R1 C1 h hp he e5;go_enter Tryz.func156,Tryz.ntmps156;go_wp2_with fail;go_loopw [7,8] (fun tv ti wr=>∃ j:Nat,j≤m∧ti=.int .i64 j∧Hid (RO wr z X q (.slice av m cv) wv es W (n+1+(flg (fun l=>decide (p <+: l)) (es.take j)).length))∧Hid (Pq wr w.heap.size z tv (flg (fun l=>decide (p <+: l)) (es.take j)))∧Hid (Chg (·=q) w wr)∧Hid ((flg (fun l=>decide (p <+: l)) (es.take j)).length≤most)) (fun _ ti _=>m - (intOf ti).toNat)
  case atStart=>exact⟨0,Nat.zero_le _,rfl,HR1,Pq.nil _ _ _,HC1,Nat.zero_le _⟩
  case round =>
    obtain⟨j,hj,rfl,t,K,HC,HL⟩:= hrel;obtain⟨bo,d,M⟩:= K.out.shape;obtain⟨c,hc⟩:∃ c,Hid ((flg (fun l=>decide (p <+: l)) (es.take j)).length=c):=⟨_,rfl⟩
    have hcj:c≤j:=by rw[← hc.out];exact CE _ _ _
    have hcm:c≤most:=by rw[← hc.out];exact HL.out
    rw[hc.out] at M t;obtain⟨A,o⟩:∃ A,Hid (n+1+c=A):=⟨_,rfl⟩
    have hNb:A≤3000000000002000000:=by have:=o.out;omega
    rw[o.out] at t;subst M;have t0:=t.out.top.cell (i:=0) rfl;by_cases hlt:j < m
    · by_cases hcl:c < most
      · obtain⟨x,hx⟩:∃ x,Hid (es[j]?=some x):=⟨es[j]'(by have:=u.out;omega),List.getElem?_eq_getElem _⟩
        obtain⟨pb,rfl⟩:= t.out.row.some hx.out;have J:=t.out.row.bX x (List.mem_of_getElem? hx.out);obtain⟨c1,c2,hpb⟩:= t.out.row.cells hx.out;have V:=(D.out x.kl2 (by rw[← y.out];exact List.mem_map.2 ⟨x,List.mem_of_getElem? hx.out,rfl⟩)).1;obtain⟨xk,g,xv,r⟩:= x;obtain⟨a1,n1,e1⟩:= J.k.shape;obtain⟨a2,n2,e2⟩:= J.v.shape;simp only at e1 e2 c1 c2;subst e1 e2
        have Y:g.length≤1000000000:=V;have H:=Ea (show By wr (.slice a1 g.length n1) g from J.k.by) (HP.out wr HC.out) Y (by rw[aa.out];exact Q)
        have L:(j:Int) < m:=by omega
        have hc0:(c:Int) < most:=by omega
        have HXE:=ah J;clear J V;by_cases f:p <+: g
        · rw[decide_eq_true f] at H
          have C:=ah (D7 (P:=fun l=>decide (p <+: l)) hx.out (decide_eq_true f));clear f;go_wp2_with first
            | (go_at_call 209;go_must (refine H.mono ?_);rintro e w7 ⟨rfl,s⟩;clear H;have R7:=t.out.keep s;have t7:=R7.top.cell (i:=0) rfl;obtain⟨g1,g2,_⟩:= R7.row.cells hx.out;obtain⟨ov',w8,hr,G,B⟩:= wR (e:=⟨.slice a1 g.length n1,g,.slice a2 r.length n2,r⟩) (K.out.keep s) (Nat.le_trans HC.out.size s.size) (HXE.out.keep s) (by rw[hc.out];omega);have al:=af w7 (.cells #[.slice a1 g.length n1,.slice a2 r.length n2] 96);have I:=(R7.keep al).spr B Z.out;have t8:=I.top.cell (i:=2) rfl;have f8:=I.top.free 2;obtain⟨R9,C9⟩:= I.done (m:=A+1);have e9:(A:Int)+1=((A+1:Nat):Int):=(by omega);obtain⟨W9,T⟩:∃ W9,Hid (w8.setCell ⟨q,2,none⟩ (.int .i64 ((A+1:Nat):Int))=W9):=⟨_,rfl⟩;have hW9':w8.setCell ⟨q,2,none⟩ (.int .i64 ((A:Int)+1))=W9:=(by rw[e9];exact T.out);rw[T.out] at R9 C9;have P9:=re G C9 (fun b m' c' e hy=>by have hy':b=q:=hy;subst hy';rcases G.ex with⟨e1,_⟩ | ⟨b',c2,e1,hb',_⟩;(rw[e1] at e;cases e);(rw[e1] at e;cases e;have:=Z.out _ I.xq;omega)) I.noU;have S:=((HC.out.trans (Chg.of (F:=fun _=>False) (ai s al)) (fun _ _ h=>h.elim)).trans B.chg (fun b hb hy=>by have:=hy.1;omega)).trans C9 (fun _ _ h=>h);have HR9:=ah R9;have HP9:=ah P9;have HC9:=ah S;clear R9 P9 S C9 I G B al s R7 e9)
            | (at_builtin;refine Lib.wpList_append_run _ rfl _ _ _ _ rfl _ _ rfl rfl _ _ hr ?_)
          go_roundw
          case rel=>exact⟨j+1,by omega,by go_num,by rw[C.out,List.length_append,hc.out,show n+1+(c + [(⟨.slice a1 g.length n1,g,.slice a2 r.length n2,r⟩:En)].length)=A+1 by have:=o.out;rw[List.length_singleton];omega];exact HR9,by rw[C.out];exact HP9,HC9,by rw[C.out,List.length_append,hc.out,List.length_singleton];exact hcl⟩
          case measure=>simp[intOf];omega
        · rw[decide_eq_false f] at H
          have C:=ah (flg_no (P:=fun l=>decide (p <+: l)) hx.out (decide_eq_false f));clear f;go_wp2_with (go_at_call 209;go_must (refine H.mono ?_);rintro e w7 ⟨rfl,s⟩;clear H);go_roundw
          case rel=>exact⟨j+1,by omega,by go_num,by rw[C.out,hc.out,o.out];exact t.out.keep s,by rw[C.out];exact K.out.keep s,HC.out.trans (Chg.of (F:=fun _=>False) s) (fun _ _ h=>h.elim),by rw[C.out];exact HL⟩
          case measure=>simp[intOf];omega
      · have hc0:((c:Int) < most)=False:=eq_false (by omega)
        have L:(j:Int) < m:=by omega
        have N:=ah (vp (P:=fun l=>decide (p <+: l)) (es:=es) (j:=j) (most:=most) (.inr (by rw[hc.out];omega)) HL.out);go_wp2;go_ret;refine⟨_,_,rfl,K.out,?_,?_,HC.out⟩
        · rw[N.out,y.out]
        · rw[← y.out,← N.out,List.length_map,hc.out,o.out]
          exact t.out.rs rfl (by rw[y.out];exact U.out) (by rw[y.out];exact D.out)
    · have L:((j:Int) < m)=False:=eq_false (by omega)
      have N:=ah (vp (P:=fun l=>decide (p <+: l)) (es:=es) (j:=j) (most:=most) (.inl (by rw[u.out];omega)) HL.out);go_wp2;go_ret;refine⟨_,_,rfl,K.out,?_,?_,HC.out⟩
      · rw[N.out,y.out]
      · rw[← y.out,← N.out,List.length_map,hc.out,o.out]
        exact t.out.rs rfl (by rw[y.out];exact U.out) (by rw[y.out];exact D.out)
end
section
variable {w:World}{v wv:Value}{z X X':Nat->Prop}{W:List ay}
theorem kQ{g o:Nat}(c:w.cell? ⟨g,o,none⟩=some v):(loadVar 30 ⟨g,o,none⟩).run Tryz.prog w=.ok v w:=by go_simp
theorem WsA.mono(h:WsA w z X wv W)(hX:∀ b,X b->X' b):WsA w z X' wv W :=
 ⟨h.ex.imp id (fun ⟨b,c,vs,e,hx,hR,hv⟩=>⟨b,c,vs,e,hX b hx,hR,fun i v F h1 h2=>(hv i v F h1 h2).mono hX⟩)⟩
def XU(w:World)(X:Nat->Prop)(b:Nat):Prop:=X b/\∀ cs,¬ Blk w b cs 5
theorem RS.noU{q n:Nat}{E:ay}(h:RS w z X q E W n):XU w X q:=⟨h.xq,fun cs k=>by
 obtain⟨lv,wv,hb,-,-⟩:=h.ex
 exact absurd (hb.eq k).2 (by decide)⟩
structure rG(w:World)(z:Nat->Prop)(X:Nat->Prop)(q:Nat)(E:ay)(W:List ay)(n:Nat)(r:Int)(e:Ending)(w':World):Prop where
 ret:e=.returned (.int .i64 r)
 ex:∃ X',RS w' z X' q E W n/\(∀ b,X' b->X b\/w.heap.size<=b)/\(∀ b,X b->X' b)/\Chg (XU w X) w w'
end
theorem jh {a:Act} {w:World} {o:Oper} (k q:Nat) {g n c i:Nat} {u:Value} {ao:Option Addr} (d:o.op=.store 30 (.tmp k) (.tmp q)) (b:a.eval (.tmp k)=.pointer (some ⟨g,i,none⟩)) (f:a.eval (.tmp q)=.slice ao n c) (hc:w.cell? ⟨g,i,none⟩=some u) (hf:w.frozen? ⟨g,i,none⟩=false) :
  (execOp a.eval o).run Tryz.prog w=.ok .skip (w.setCell ⟨g,i,none⟩ (.slice ao n c)):=by
 simp only[execOp,d,b,f];go_simp
section
variable {z ov u:Value}{w:World}{B cc i j:Nat}{D:Nat->Prop}{es es2:List En}{a:Addr}{op:Oper}
theorem mr{T E:TypeId}{k bytes:Nat}(H:Kd Tryz.prog T E k bytes z)(ty:TypeId)(w:World)(ao:Option Addr)(c:Nat):(Builtin.append_ #[T,T] ty #[.slice none 0 0,.slice ao 0 c]).run Tryz.prog w=.ok (.slice none 0 0) w:=by
 obtain⟨i,hi,d,e,hb⟩:=info_parts H.inf;have:(Builtin.firstCells i.size 0 (.slice ao 0 c)).run Tryz.prog w=.ok #[] w:=by
  cases ao with
  | none=>rfl
  | some a=>exact run_firstCells_some w i.size 0 a 0 c [] (by simp) (fun j v b=>by simp at b)
 simp[Builtin.append_,run_underlying H.und,sizeOf,typeInfo,hi,Builtin.lenOf,this]
theorem adr0(b o n:Nat):(⟨b,o,none⟩:Addr).add n=⟨b,o+n,none⟩:=by
 by_cases h:n=0
 ·subst h;rfl
 ·simp[Addr.add,h]
theorem xp(h:Pq w B D ov es)(s:B<=w.heap.size)(he:∀ e∈es2,EnA w D e)(p:es2≠[])(r:es.length+es2.length<=2000000000)(hc:∀ j u,(flat es2)[j]?=some u->w.cell? (a.add j)=some u) :
  ∃ ov' w',(Builtin.append_ #[30,30] 30 #[ov,.slice (some a) es2.length cc]).run Tryz.prog w=.ok ov' w'/\Pq w' B D ov' (es ++ es2)/\Spr B w w':=by
 have f:0 < es2.length:=List.length_pos_iff.2 p;rcases h.ex with⟨rfl,rfl⟩ | ⟨b,c,rfl,hb,g⟩
 ·simp only[List.length_nil,Nat.zero_add] at r;obtain⟨i,w',n,g,hw⟩:=er (w:=w) KQ 30 a es2.length cc (flat es2) (fL es2) hc f (by omega) (by omega);exact⟨_,w',n,⟨.inr ⟨_,i,rfl,s,g⟩,fun x hx=>(he x hx).keep hw⟩,Spr.of hw⟩
 ·obtain⟨q,i,w',n,o,l,hw⟩:=dh (w:=w) KQ 30 g a es2.length cc (flat es2) (fL es2) hc (gG he) (by omega) (by omega);obtain⟨m,k0⟩:=g.kind
  have hS:Spr B w w':=⟨hw.mono (fun x _ ex=>⟨ex▸hb,m,ex▸k0⟩)⟩
  refine⟨_,w',n,⟨.inr ⟨q,i,by simp,by rcases o with rfl | rfl<;>assumption,by rw[df,List.length_append];exact l⟩,fun x hx=>?_⟩,hS⟩
  have d:EnA w D x:=by
   rcases List.mem_append.1 hx with hx | hx
   ·exact h.bX x hx
   ·exact he x hx
  exact⟨hS.ob d.k,hS.ob d.v⟩
theorem mE(h:Pq w B D ov es)(r:B<=w.heap.size)(he:∀ e∈es2,EnA w D e)(o:es.length+es2.length<=2000000000)(hc:∀ j u,(flat es2)[j]?=some u->w.cell? (a.add j)=some u) :
  ∃ ov' w',(Builtin.append_ #[30,30] 30 #[ov,.slice (some a) es2.length cc]).run Tryz.prog w=.ok ov' w'/\Pq w' B D ov' (es ++ es2)/\Spr B w w':=by
 by_cases l:es2=[]
 ·subst l;rcases h.ex with⟨rfl,rfl⟩ | ⟨b,c,rfl,hb,hR⟩
  ·exact⟨_,w,mr KQ _ w _ _,Pq.nil _ _ _,Spr.of (Below.refl _ _)⟩
  ·obtain⟨n,m,w',p,i,f,hw⟩:=dh (w:=w) KQ 30 hR a 0 cc [] rfl (fun j u q=>by simp at q) (by simp) (by omega) (by omega);obtain⟨g,k0⟩:=hR.kind
   have hS:Spr B w w':=⟨hw.mono (fun x _ ex=>⟨ex▸hb,g,ex▸k0⟩)⟩
   refine⟨_,w',p,⟨.inr ⟨n,m,by simp,by rcases i with rfl | rfl<;>assumption,by rw[List.append_nil];simpa using f⟩,fun x hx=>?_⟩,hS⟩
   have d:=h.bX x (by simpa using hx);exact⟨hS.ob d.k,hS.ob d.v⟩
 ·exact xp h r he l o hc
theorem qJ(h:(flat (es.take i))[j]?=some u):(flat es)[j]?=some u:=by
 rw[<- fP,List.getElem?_take] at h;split at h
 ·exact h
 ·cases h
theorem qt(h:(flat (es.drop i))[j]?=some u):(flat es)[i * 2+j]?=some u:=by
 rw[<- fJ,List.getElem?_drop] at h;exact h
theorem DE{a:Act}{x y n c b:Nat}(j:op.op=.slice 30 (.tmp x) none (some (.tmp y)) none)(hx:a.eval (.tmp x)=.slice (some ⟨b,0,none⟩) n c)(hy:a.eval (.tmp y)=.int .i64 i)(hc:i<=c):(execOp a.eval op).run Tryz.prog w=.ok (.value (.slice (some ⟨b,0,none⟩) i c)) w:=by
 have o:¬ ((c:Int) < i):=by omega
 have m:(i:Int)<=c:=by omega
 have p:¬ ((i:Int) < 0):=by omega
 have l:a.tmps[y]?.getD undef=.int .i64 i:=by simpa[Act.eval] using hy
 obtain⟨i0,hi,d,f,g⟩:=info_parts (P:=Tryz.prog) KQ.inf;simp only[execOp,j,hx];go_simp
theorem EE{a:Act}{x y n c b:Nat}{z:Int}(f:op.op=.slice 30 (.tmp x) (some (.tmp y)) none none)(hx:a.eval (.tmp x)=.slice (some ⟨b,0,none⟩) n c)(hy:a.eval (.tmp y)=.int .i64 z)(l:z=(i:Int))(hn:i<=n)(o:n<=c):(execOp a.eval op).run Tryz.prog w=.ok (.value (.slice (some ⟨b,if c=i then 0 else i * 2,none⟩) (n - i) (c - i))) w:=by
 subst l
 have s:¬ ((n:Int) < i):=by omega
 have q:(i:Int)<=n:=by omega
 have A:¬ ((i:Int) < 0):=by omega
 have r:(n:Int)<=c:=by omega
 have v:(i:Int)<=c:=by omega
 have p:a.tmps[y]?.getD undef=.int .i64 i:=by simpa[Act.eval] using hy
 obtain⟨i0,hi,g,j,m⟩:=info_parts (P:=Tryz.prog) KQ.inf;by_cases d:c=i
 ·subst d;obtain rfl:n=c:=by omega
  simp only[execOp,f,hx,if_true];go_simp
 ·have u:¬ (c - i=0):=by omega
  have B:¬ ((c:Int)=i):=by omega
  have t:¬ (c<=i):=by omega
  simp only[execOp,f,hx,if_neg d];go_simp
end
section
variable {z ov:Value}{w:World}{B B2 n c i x y:Nat}{D:Nat->Prop}{es fs:List En}{la:Option Addr}{a:Act}{op:Oper}
theorem so{T E:TypeId}{k bytes:Nat}(H:Kd Tryz.prog T E k bytes z)(ty:TypeId)(w:World)(a:Addr)(n c:Nat)(hn:n<=c):(Builtin.append_ #[T,T] ty #[.slice (some a) n c,.slice none 0 0]).run Tryz.prog w=.ok (.slice (some a) n c) w:=by
 obtain⟨i,hi,d,b,hb⟩:=info_parts H.inf;have:(Builtin.firstCells i.size 0 (.slice none 0 0)).run Tryz.prog w=.ok #[] w:=rfl;simp[Builtin.append_,run_underlying H.und,sizeOf,typeInfo,hi,Builtin.lenOf,this,hn,storeCells]
def nX(la:Option Addr)(c i:Nat):Option Addr:=match la with
 | none=>none
 | some a=>some ⟨a.block,if c=i then 0 else i * 2,none⟩
theorem m9(h:Pq w B D ov es)(g:B<=w.heap.size)(e:Pq w B2 D (.slice la n c) fs)(hi:i<=fs.length)(k:es.length+fs.length<=2000000000) :
  ∃ ov' w',(Builtin.append_ #[30,30] 30 #[ov,.slice la i c]).run Tryz.prog w=.ok ov' w'/\Pq w' B D ov' (es ++ fs.take i)/\Spr B w w':=by
 rcases e.ex with⟨e1,rfl⟩ | ⟨b,c',e1,_,hR⟩
 ·cases e1;obtain rfl:i=0:=by simpa using hi
  rw[List.take_nil,List.append_nil];rcases h.ex with⟨rfl,rfl⟩ | ⟨b,c,rfl,hb,hR⟩
  ·exact⟨_,w,mr KQ _ w _ _,h,Spr.of (Below.refl _ _)⟩
  ·exact⟨_,w,so KQ _ w _ _ _ hR.le.1,h,Spr.of (Below.refl _ _)⟩
 ·cases e1
  have d:(fs.take i).length=i:=by rw[List.length_take,Nat.min_eq_left hi]
  have up:=mE (w:=w) (es2:=fs.take i) (a:=⟨b,0,none⟩) (cc:=c) h g (fun x hx=>e.bX x (List.mem_of_mem_take hx)) (by omega) (fun j u f=>by
   rw[adr0,Nat.zero_add]
   exact hR.cell (qJ f))
  rw[d] at up;exact up
theorem rE(h:Pq w B D ov es)(k:B<=w.heap.size)(f:Pq w B2 D (.slice la n c) fs)(hi:i<=fs.length)(l:es.length+fs.length<=2000000000) :
  ∃ ov' w',(Builtin.append_ #[30,30] 30 #[ov,.slice (nX la c i) (n - i) (c - i)]).run Tryz.prog w=.ok ov' w'/\Pq w' B D ov' (es ++ fs.drop i)/\Spr B w w':=by
 rcases f.ex with⟨e1,rfl⟩ | ⟨b,c',e1,_,hR⟩
 ·cases e1;obtain rfl:i=0:=by simpa using hi
  rw[List.drop_nil,List.append_nil];simp only[nX,Nat.sub_zero];rcases h.ex with⟨rfl,rfl⟩ | ⟨b,c,rfl,hb,hR⟩
  ·exact⟨_,w,mr KQ _ w _ _,h,Spr.of (Below.refl _ _)⟩
  ·exact⟨_,w,so KQ _ w _ _ _ hR.le.1,h,Spr.of (Below.refl _ _)⟩
 ·cases e1;simp only[nX]
  have d:(fs.drop i).length=fs.length - i:=by rw[List.length_drop]
  have hle:=hR.le
  have up:=mE (w:=w) (es2:=fs.drop i) (a:=⟨b,if c=i then 0 else i * 2,none⟩) (cc:=c - i) h k (fun x hx=>f.bX x (List.mem_of_mem_drop hx)) (by omega) (fun j u e=>by
   by_cases g:c=i
   ·have:fs.drop i=[]:=List.drop_eq_nil_of_le (by omega);rw[this] at e;simp[flat] at e
   ·rw[if_neg g,adr0]
    exact hR.cell (qt e))
  rw[d] at up;exact up
theorem mi(m:Pq w B D (.slice la n c) fs)(d:op.op=.slice 30 (.tmp x) none (some (.tmp y)) none)(hx:a.eval (.tmp x)=.slice la n c)(hy:a.eval (.tmp y)=.int .i64 i)(hi:i<=fs.length):∀ w':World,(execOp a.eval op).run Tryz.prog w'=.ok (.value (.slice la i c)) w':=by
 intro w';rcases m.ex with⟨e1,rfl⟩ | ⟨b,c',e1,_,hR⟩
 ·cases e1;obtain rfl:i=0:=by simpa using hi
  have l:a.tmps[y]?.getD undef=.int .i64 0:=by simpa[Act.eval] using hy
  obtain⟨i0,hi,f,g,j⟩:=info_parts (P:=Tryz.prog) KQ.inf;simp only[execOp,d,hx];go_simp
 ·cases e1;exact DE d hx hy (Nat.le_trans hi hR.le.1)
theorem gN{z:Int}(o:Pq w B D (.slice la n c) fs)(f:op.op=.slice 30 (.tmp x) (some (.tmp y)) none none)(hx:a.eval (.tmp x)=.slice la n c)(hy:a.eval (.tmp y)=.int .i64 z)(d:z=(i:Int))(hi:i<=fs.length):∀ w':World,(execOp a.eval op).run Tryz.prog w'=.ok (.value (.slice (nX la c i) (n - i) (c - i))) w':=by
 intro w';rcases o.ex with⟨e1,rfl⟩ | ⟨b,c',e1,_,hR⟩
 ·cases e1;obtain rfl:i=0:=by simpa using hi
  subst d
  have m:a.tmps[y]?.getD undef=.int .i64 0:=by simpa[Act.eval] using hy
  obtain⟨i0,hi,g,j,l⟩:=info_parts (P:=Tryz.prog) KQ.inf;simp only[execOp,f,hx,nX];go_simp
 ·cases e1;exact EE f hx hy d hi hR.le.1
end
section
variable {ops:Array Oper} {rest:List Oper} {o:Oper} {a:Act} {w w1:World} {Q:Exit->Act->World->Prop} {K:Act->World->Prop} {Q':Exit->Act->World->Prop}
theorem sU (d:Option Tmp) (v:Value) (e:o.guard=none) (c:o.dst=d) (b:(execOp a.eval o).run Tryz.prog w=.ok (.value v) w1) (h:wpList Tryz.prog ops Q rest (a.put d v) w1):wpList Tryz.prog ops Q (o :: rest) a w :=
 wpList_plain e fun K f=>by
  unfold Oper.wp;rw[b];subst c;exact f _ _ h
theorem ib (d:Option Tmp) (v:Value) (e:o.guard=none) (c:o.dst=d) (b:(execOp a.eval o).run Tryz.prog w=.ok (.value v) w) (h:wpList Tryz.prog ops Q rest (a.put d v) w):wpList Tryz.prog ops Q (o :: rest) a w:=sU d v e c b h
theorem fQ (d:Nat) (v:Value) (h:wpList Tryz.prog ops Q rest (a.put (some d) v) w) (e:o.guard=none:=by rfl) (c:o.dst=some d:=by rfl) (b:(execOp a.eval o).run Tryz.prog w=.ok (.value v) w:=by kernel_rfl):wpList Tryz.prog ops Q (o :: rest) a w:=ib (some d) v e c b h
theorem vw (d:o.guard=none) (c:o.dst=none) (b:(execOp a.eval o).run Tryz.prog w=.ok .skip w1) (h:wpList Tryz.prog ops Q rest (a.put none undef) w1):wpList Tryz.prog ops Q (o :: rest) a w :=
 wpList_plain d fun K e=>by
  unfold Oper.wp;rw[b]
  show K (a.put o.dst undef) w1
  rw[c];exact e _ _ h
theorem mz (h:K a w):wpList Tryz.prog ops (Exit.then K Q') [] a w:=h
theorem rm (h:K a w):Code.skip.wp Tryz.prog (Exit.then K Q') a w:=wp_skip h
end
theorem rL {a:Act} {w:World} {o:Oper} {x n:Nat} (c:o.op=.binOp .add 3 (.tmp x) (.const (.int .i64 1)) 3) (hx:a.eval (.tmp x)=.int .i64 (n:Int)) (hn:n<=1000000000):(execOp a.eval o).run Tryz.prog w=.ok (.value (.int .i64 ((n:Int)+1))) w:=by
 have b:a.tmps[x]?.getD undef=.int .i64 (n:Int):=by simpa[Act.eval] using hx
 simp only[execOp,c];go_simp;rw[IntKind.wrap_i64];omega
end Kv
end
section
open Pg (ax aN aB aO)
namespace Kv
open Go.RowKit Go.Lib Pg
attribute [local go_sem] Oper.semAt_some
section
variable {w W5:World}{v k:List Int}{kv vv:Value}{B q n:Nat}{D z X:Nat->Prop}{es:List En}{la:Option Addr}{W:List ay}{E:ay}
theorem Ci{g:Nat}{v u:Value}(c:w.cell? ⟨g,0,none⟩=some v)(d:w.cell? ⟨g,1,none⟩=some u):(loadVar 96 ⟨g,0,none⟩).run Tryz.prog w=.ok (.agg #[v,u]) w:=by go_simp
theorem wB{a:Act}{o:Oper}{k:Nat}(b:o.op=.buildSlice 30 1 #[(0,.tmp k)])(d:a.eval (.tmp k)=.agg #[kv,vv]):(execOp a.eval o).run Tryz.prog w=.ok (.value (.slice (some ⟨w.heap.size,0,none⟩) 1 1)) (w.alloc (.cells #[kv,vv] 96)):=by
 have c:a.tmps[k]?.getD undef=.agg #[kv,vv]:=by simpa[Act.eval] using d
 simp only[execOp,b];go_simp
theorem Pq.low{B':Nat}{v:Value}(h:Pq w B D v es)(hB:B'<=B):Pq w B' D v es :=
 ⟨h.ex.imp id (fun ⟨b,c,e,hl,hR⟩=>⟨b,c,e,Nat.le_trans hB hl,hR⟩),h.bX⟩
theorem Pq.blkc{v:Value}{m:Nat}(h:Pq w B D v es)(he:es≠[])(hm:es.length=m):∃ b c,v=.slice (Option.some ⟨b,0,none⟩) m c:=by
 rcases h.ex with⟨_,e⟩ | ⟨b,c,e,_⟩
 ·exact absurd e he
 ·exact⟨b,c,by rw[e,hm]⟩
theorem built2{e0:En}{s lc lo:Nat}(o:Pq W5 B D (.slice la s lc) es)(he:EnA W5 D e0)(l:lo<=es.length)(t:es.length<=1000000) :
  (∃ v5 w5 b6 c6 w6,(Builtin.append_ #[30,30] 30 #[.slice none 0 0,.slice la lo lc]).run Tryz.prog W5=.ok v5 w5/\Below W5.heap.size W5 w5/\(Builtin.append_ #[30,30] 30 #[v5,.slice (some ⟨w5.heap.size,0,none⟩) 1 1]).run Tryz.prog (w5.alloc (.cells #[e0.kv,e0.vv] 96))=.ok (.slice (some ⟨b6,0,none⟩) (lo+1) c6) w6/\Below W5.heap.size W5 w6/\Pq w6 W5.heap.size D (.slice (some ⟨b6,0,none⟩) (lo+1) c6) (es.take lo ++ [e0])) /\
  (∃ v5 w5 b6 c6 w6,(Builtin.append_ #[30,30] 30 #[.slice none 0 0,.slice la lo lc]).run Tryz.prog (W5.alloc (.cells #[e0.kv,e0.vv] 96))=.ok v5 w5/\Below W5.heap.size W5 w5/\(Builtin.append_ #[30,30] 30 #[v5,.slice (some ⟨W5.heap.size,0,none⟩) 1 1]).run Tryz.prog w5=.ok (.slice (some ⟨b6,0,none⟩) (lo+1) c6) w6/\Below W5.heap.size W5 w6/\Pq w6 W5.heap.size D (.slice (some ⟨b6,0,none⟩) (lo+1) c6) (es.take lo ++ [e0])):=by
 have hlen:(es.take lo ++ [e0]).length=lo+1:=by simp;omega
 have i:es.take lo ++ [e0]≠[]:=by simp
 have j:(es.take lo).length<=2000000000:=by rw[List.length_take];omega
 refine⟨?_,?_⟩
 ·obtain⟨v5,w5,e,m,n⟩:=m9 (ov:=.slice none 0 0) (es:=[]) (Pq.nil W5 W5.heap.size D) (Nat.le_refl _) o l (by simp;omega);rw[List.nil_append] at m;have d:=eh n (Nat.le_refl _);obtain⟨v6,w6,f,k,b6⟩:=Bv m d.size (he.keep d) j;obtain⟨b,c,rfl⟩:=k.blkc i hlen;exact⟨v5,w5,b,c,w6,e,d,f,d.trans b6,k⟩
 ·have al:=af W5 (.cells #[e0.kv,e0.vv] 96);have q:=bC W5 (.cells #[e0.kv,e0.vv] 96);obtain⟨c0,c1⟩:=lit2 W5 e0.kv e0.vv 96;obtain⟨v5,w5,e,m,n⟩:=m9 (ov:=.slice none 0 0) (es:=[]) (Pq.nil _ _ D) (Nat.le_refl _) (o.keep al) l (by simp;omega);rw[List.nil_append] at m;have d:=eh n (Nat.le_refl _);have g:=ai al d
  have h:W5.heap.size < (W5.alloc (.cells #[e0.kv,e0.vv] 96)).heap.size:=by omega
  have d0:=(d.cell (p:=⟨W5.heap.size,0,none⟩) h).trans c0;have d1:=(d.cell (p:=(⟨W5.heap.size,0,none⟩:Addr).add 1) h).trans c1;obtain⟨v6,w6,f,k,r⟩:=uu (a:=⟨W5.heap.size,0,none⟩) 30 m d.size (he.keep g) j d0 d1;have b6:=eh r d.size;obtain⟨b,c,rfl⟩:=k.blkc i hlen;exact⟨v5,w5,b,c,w6,e,g,f,g.trans (b6.mono (by omega)),k.low (by omega)⟩
theorem RO.laid{a:World}{lv wv:Value}{f:List En}{d o k:Nat}(h:RO w z X q lv wv es W n)(C:∀ b,w.heap.size<=b->z b)(B:Below w.heap.size w a)(p:Pq a w.heap.size z (.slice (some ⟨d,0,none⟩) o k) f){E':ay}(u:f.map En.kl2=E')(v:cI E')(A:∀ x∈E',x.1.length<=1000000000/\x.2.length<=1000000000) :
  ∃ X',RS (a.setCell ⟨q,0,none⟩ (.slice (some ⟨d,0,none⟩) o k)) z X' q E' W n/\(∀ b,X' b->X b\/w.heap.size<=b)/\(∀ b,X b->X' b)/\Chg (·=q) w (a.setCell ⟨q,0,none⟩ (.slice (some ⟨d,0,none⟩) o k)):=by
 have g:=h.keep B;have D:=(h.xz q h.xq).2
 have l:Chg (·=q) a (a.setCell ⟨q,0,none⟩ (.slice (some ⟨d,0,none⟩) o k)):=(Chg.refl (fun x=>x=q) a).cell (.inl rfl) _
 have j:w.heap.size<=d/\d < a.heap.size:=by
  rcases p.ex with⟨e,_⟩ | ⟨b,c,e,hb,hR⟩
  ·cases e
  ·cases e;exact⟨hb,hR.lt⟩
 have t:=re p l (fun b m c e hy=>by cases e;have y:d=q:=hy;omega) g.noU;refine⟨fun b=>X b\/b=d,⟨⟨_,_,g.top.setCell (i:=0) _,⟨⟨f,t.low (Nat.zero_le _),u⟩,fun b m c e=>by cases e;exact .inr rfl⟩,(g.was.chg l (fun b e _=>by subst e;exact⟨_,_,g.top,by decide,by decide⟩) g.noU).mono fun _ h=>.inl h⟩,.inl h.xq,fun b hx=>?_,v,A⟩,fun b hx=>hx.imp id (fun e=>by rw[e];exact j.1),fun _ h=>.inl h,(Chg.of (F:=fun x=>x=q) B).trans l (fun _ _ h=>h)⟩;have r:=l.size;rcases hx with hx | rfl
 ·have s:=g.xz b hx;exact⟨s.1,by omega⟩
 ·exact⟨C _ j.1,by omega⟩
theorem Dx(h:RS w z X q E W n)(hZ:∀ b,w.heap.size<=b->z b)(hk:By w kv k)(hv:By w vv v)(K:By (w.setCell ⟨q,2,none⟩ (.int .i64 ((n+1:Nat):Int))) kv k)(Y:By (w.setCell ⟨q,2,none⟩ (.int .i64 ((n+1:Nat):Int))) vv v)(hk0:¬ k.length=0)(hk1:k.length<=64)(hv1:v.length<=4096)(hn:n<=4000000000000000000)(hm:E.length<=1000000) :
  Calls Tryz.prog 8 #[.pointer (some ⟨q,0,none⟩),kv,vv] w (rG w z X q (put E k v) W (n+1) 0):=by
 obtain⟨lv,wv,es,R0,he⟩:=h.ro;obtain⟨R1,C1⟩:=R0.done (m:=n+1)
 have R:es.length=E.length:=by rw[<- he,List.length_map]
 have up:=uC (m:=E.length) R1.top R1.row (by rw[he];exact h.dA) K (by omega) (fun e hx=>(h.small e.kl2 (by rw[<- he];exact List.mem_map_of_mem hx)).1) R hm;rw[he] at up;obtain⟨k1,-,k3,-⟩:=ju h.dA k;obtain⟨la,lc,rfl⟩:=R0.row.shape;obtain⟨ka,kc,rfl,-⟩:=id hk.ex;obtain⟨va,vc,rfl,-⟩:=id hv.ex;obtain⟨lo,P⟩:∃ lo,Hid (cnt E k=lo):=⟨_,rfl⟩
 have g:lo<=es.length:=by rw[<- P.out,R];exact kB E k
 have hpr:cI (put E k v)/\∀ x∈put E k v,x.1.length<=1000000000/\x.2.length<=1000000000:=⟨h.dA.put k v,fun x hx=>by
  rcases List.mem_append.1 hx with hx | hx
  ·exact h.small x (List.mem_filter.1 hx).1
  ·rcases List.mem_cons.1 hx with rfl | hx
   ·exact⟨by show k.length<=_;omega,by show v.length<=_;omega⟩
   ·exact h.small x (List.mem_filter.1 hx).1⟩
 have M:put E k v=E.take lo ++ (k,v) :: E.drop (lo+if (look E k).isSome then 1 else 0):=by rw[<- P.out];exact congrFun k3 v
 have c:lo+(if (look E k).isSome then 1 else 0)<=es.length:=by
  split
  ·rename_i hs;rw[hs] at k1;rw[P.out] at k1
   cases e:E[lo]? with
   | none=>rw[e] at k1;cases k1
   | some y=>have:=(List.getElem?_eq_some_iff.1 e).1;omega
  ·exact g
 obtain⟨is,his⟩:∃ is,Hid ((look E k).isSome=is):=⟨_,rfl⟩
 rw[P.out,his.out] at up;rw[his.out] at M c;obtain⟨kn,hkn⟩:∃ kn,Hid (k.length=kn):=⟨_,rfl⟩
 obtain⟨f,hvn⟩:∃ f,Hid (v.length=f):=⟨_,rfl⟩
 obtain⟨j,hln⟩:∃ j,Hid (es.length=j):=⟨_,rfl⟩
 rw[hkn.out] at hk0 hk1 up K ⊢;rw[hvn.out] at hv1 Y ⊢;rw[hln.out] at R0 R1;have d2:=R0.top.cell (i:=2) rfl;have f2:=R0.top.free 2
 have e5:((n:Int)+1)=((n+1:Nat):Int):=by omega
 obtain⟨W1,hW1⟩:∃ W1,Hid (w.setCell ⟨q,2,none⟩ (.int .i64 ((n+1:Nat):Int))=W1):=⟨_,rfl⟩
 have hW2:w.setCell ⟨q,2,none⟩ (.int .i64 ((n:Int)+1))=W1:=by rw[e5];exact hW1.out
 rw[hW1.out] at up R1 C1 K Y
 have up':=ah up;have HR1:=ah R1;have I:=ah C1;have HK:=ah K;have HV:=ah Y;have HE:=ah he;have HX:=ah h.noU;have HPR:=ah hpr;have HPU:=ah M
 have O:=ah hZ
 have t:=ah R;have hqx:=(h.xz q h.xq).2;have hln5:=g;have aa:=c;rw[hln.out] at hln5 aa
 have hk2:¬ ((kn:Int) < 1):=by omega
 have hk3:¬ ((64:Int) < kn):=by omega
 have hv3:¬ ((4096:Int) < f):=by omega
 have hkl9:k.length<=1000000000:=by have:=hkn.out;omega
 have hvl9:v.length<=1000000000:=by have:=hvn.out;omega
 clear R1 C1 up h hk hv K Y he e5 R R0 k1 k3 M hpr hZ;go_enter Tryz.func8,Tryz.ntmps8;go_wp2_with first
  | (go_at_call 35;go_must (refine up'.out.mono ?_);rintro e w2 ⟨rfl,B2⟩;clear up')
  | (go_at_call 36;have gate:=B3;clear gate;go_must (refine(Pg.fB ((HV.out.keep B2).keep B3) hvl9).mono ?_);rintro e H ⟨v3,rfl,V3,B4⟩;obtain⟨B,l,e3⟩:=V3.shape;rw[hvn.out] at e3;subst e3)
  | (go_at_call 36;go_must (refine(Pg.fB (HK.out.keep B2) hkl9).mono ?_);rintro e w3a ⟨v2,rfl,V2,B3⟩;obtain⟨s,c2,e2⟩:=V2.shape;rw[hkn.out] at e2;subst e2)
 have b4:=af H (.cells #[.slice s kn c2,.slice B f l] 96);have D:=ai (ai (ai B2 B3) B4) b4;have x05:=ah ((aj H [.slice s kn c2,.slice B f l] 96).cell (i:=0) rfl);have x15:=ah ((aj H [.slice s kn c2,.slice B f l] 96).cell (i:=1) rfl);have U:=bC H (.cells #[.slice s kn c2,.slice B f l] 96);have EN:=ah (show EnA (H.alloc (.cells #[.slice s kn c2,.slice B f l] 96)) z ⟨.slice s kn c2,k,.slice B f l,v⟩ from⟨((V2.keep B4).keep b4).mono (fun b _ hb=>O.out b (by have:=I.out.size;have:=B2.size;omega)),(V3.keep b4).mono (fun b _ hb=>O.out b (by have:=I.out.size;have:=B2.size;have:=B3.size;omega))⟩);obtain⟨W5,hW5⟩:∃ W5,Hid (H.alloc (.cells #[.slice s kn c2,.slice B f l] 96)=W5):=⟨_,rfl⟩
 rw[hW5.out] at b4 D x05 x15 U EN ⊢;have Z:=ah (HR1.out.keep D);have L:=ah Z.out.row;have c05:=ah (Z.out.top.cell (i:=0) rfl)
 have hZ5:∀ b,W5.heap.size<=b->z b:=fun b hb=>O.out b (by have:=I.out.size;have:=D.size;omega)
 have hq5:q < W5.drew.heap.size:=(Z.out.xz q Z.out.xq).2;replace U:H.heap.size < W5.drew.heap.size:=by show H.heap.size < W5.heap.size;omega
 obtain⟨⟨v5a,V,b6a,c6a,w6a,r,J,o,C,S⟩,⟨v5b,w5b,b6b,c6b,w6b,A,Q,u,G,N⟩⟩:=built2 (W5:=W5.drew) (L.out.keep (cE W5)) (EN.out.keep (cE W5)) g (by rw[t.out];exact hm);replace r:=ah r;replace o:=ah o;replace A:=ah A;replace u:=ah u;replace J:=ah J;replace C:=ah C;replace Q:=ah Q;replace G:=ah G;replace S:=ah S;replace N:=ah N;clear O;refine mM (X:=Value × Value × Nat × Nat) (fun x=>[(some 40,.slice none 0 0),(some 41,.pointer (some ⟨q,0,none⟩)),(some 42,.pointer (some ⟨q,0,none⟩)),(some 43,.pointer (some ⟨q,0,none⟩)),(some 44,.slice la j lc),(some 45,.int .i64 lo),(some 46,.slice la lo lc),(some 47,x.1),(some 48,.agg #[.slice s kn c2,.slice B f l]),(some 49,x.2.1),(some 50,.slice (some ⟨x.2.2.1,0,none⟩) (lo+1) x.2.2.2),(some 10,.slice (some ⟨x.2.2.1,0,none⟩) (lo+1) x.2.2.2)]) (fun x w'=>Pq w' W5.heap.size z (.slice (some ⟨x.2.2.1,0,none⟩) (lo+1) x.2.2.2) (es.take lo ++ [(⟨.slice s kn c2,k,.slice B f l,v⟩:En)])/\Below W5.heap.size W5 w') (fun w'=>Below W5.drew.heap.size W5.drew w') (by kernel_rfl) (Below.refl _ _) ?_ ?_
 ·refine ax 0 40 (.slice none 0 0) (by kernel_rfl) (fun _ _=>by kernel_rfl) i3 (Below.refl _ _) ?_
  refine ax 1 41 (.pointer (some ⟨q,0,none⟩)) (by kernel_rfl) (fun _ _=>by kernel_rfl) i3 (Below.refl _ _) ?_
  refine ax 2 42 (.pointer (some ⟨q,0,none⟩)) (by kernel_rfl) (fun _ _=>by kernel_rfl) i3 (Below.refl _ _) ?_
  refine ax 3 43 (.pointer (some ⟨q,0,none⟩)) (by kernel_rfl) (fun _ _=>by kernel_rfl) i3 (Below.refl _ _) ?_
  refine aN 4 (some 44) (.slice la j lc) 30 43 q 0 (by kernel_rfl) (by kernel_rfl) (by kernel_rfl) (fun w' h=>kQ ((h.cell (p:=⟨q,0,none⟩) hq5).trans c05.out)) i3 (Below.refl _ _) ?_
  refine ax 5 45 (.int .i64 lo) (by kernel_rfl) (fun _ _=>by kernel_rfl) i3 (Below.refl _ _) ?_
  refine ax 6 46 (.slice la lo lc) (by kernel_rfl) (fun _ _=>mi (x:=44) (y:=45) L.out (by kernel_rfl) (by kernel_rfl) (by kernel_rfl) g _) i3 (Below.refl _ _) ?_
  refine aN 8 (some 48) (.agg #[.slice s kn c2,.slice B f l]) 96 9 H.heap.size 0 (by kernel_rfl) (by kernel_rfl) (by kernel_rfl) (fun w' h=>Ci ((h.cell (p:=⟨H.heap.size,0,none⟩) U).trans x05.out) ((h.cell (p:=⟨H.heap.size,1,none⟩) U).trans x15.out)) i3 (Below.refl _ _) ?_
  refine aB [7,9] (by kernel_rfl) (by simp) ?_
  refine aO 7 (some 47) v5a V (by kernel_rfl) (fC (x:=40) (y:=46) (T:=30) (ty:=30) (by kernel_rfl) (by kernel_rfl) (by kernel_rfl) (by kernel_rfl) r.out) J.out ?_ (aO 9 (some 49) (.slice (some ⟨W5.drew.heap.size,0,none⟩) 1 1) (W5.drew.alloc (.cells #[.slice s kn c2,.slice B f l] 96)) (by kernel_rfl) (wB (k:=48) (by kernel_rfl) (by kernel_rfl)) (af _ _) ?_ aL)
  ·refine aB [9] (by kernel_rfl) (by simp) (aO 9 (some 49) (.slice (some ⟨V.heap.size,0,none⟩) 1 1) (V.alloc (.cells #[.slice s kn c2,.slice B f l] 96)) (by kernel_rfl) (wB (k:=48) (by kernel_rfl) (by kernel_rfl)) (ai J.out (af _ _)) ?_ aL);refine aB [10] (by kernel_rfl) (by simp) (aO 10 (some 50) (.slice (some ⟨b6a,0,none⟩) (lo+1) c6a) w6a (by kernel_rfl) (fC (x:=47) (y:=49) (T:=30) (ty:=30) (by kernel_rfl) (by kernel_rfl) (by kernel_rfl) (by kernel_rfl) o.out) C.out ?_ aL);refine ax 11 10 (.slice (some ⟨b6a,0,none⟩) (lo+1) c6a) (by kernel_rfl) (fun _ _=>by kernel_rfl) i3 C.out ?_
   refine bh (by kernel_rfl) ?_
   exact⟨(v5a,.slice (some ⟨V.heap.size,0,none⟩) 1 1,b6a,c6a),by kernel_rfl,S.out,ai (cE W5) C.out⟩
  ·refine aB [7] (by kernel_rfl) (by simp) (aO 7 (some 47) v5b w5b (by kernel_rfl) (fC (x:=40) (y:=46) (T:=30) (ty:=30) (by kernel_rfl) (by kernel_rfl) (by kernel_rfl) (by kernel_rfl) A.out) Q.out ?_ aL);refine aB [10] (by kernel_rfl) (by simp) (aO 10 (some 50) (.slice (some ⟨b6b,0,none⟩) (lo+1) c6b) w6b (by kernel_rfl) (fC (x:=47) (y:=49) (T:=30) (ty:=30) (by kernel_rfl) (by kernel_rfl) (by kernel_rfl) (by kernel_rfl) u.out) G.out ?_ aL);refine ax 11 10 (.slice (some ⟨b6b,0,none⟩) (lo+1) c6b) (by kernel_rfl) (fun _ _=>by kernel_rfl) i3 G.out ?_
   refine bh (by kernel_rfl) ?_
   exact⟨(v5b,.slice (some ⟨W5.drew.heap.size,0,none⟩) 1 1,b6b,c6b),by kernel_rfl,N.out,ai (cE W5) G.out⟩
 rintro⟨v5,v49,b6,c6⟩ w6 ⟨P6,B6⟩;dsimp only at P6;simp only[gQ,Act.put,List.setIfInBounds_toArray,List.set_cons_zero,List.set_cons_succ];clear r o A u J C Q G S N x05 x15 EN hW5 V2 V3
 have h6:(es.take lo ++ [(⟨.slice s kn c2,k,.slice B f l,v⟩:En)]).length=lo+1:=by simp;omega
 obtain⟨d,hlp⟩:∃ d,Hid (lo+(if is=true then 1 else 0)=d):=⟨_,rfl⟩
 rw[hlp.out] at c aa HPU;obtain⟨v7,w7,hr7,P7,S7⟩:=rE (i:=d) P6 B6.size (L.out.keep B6) c (by rw[h6,t.out];have:=g;rw[t.out] at this;omega);have B7:=B6.trans (eh S7 B6.size)
 have h7:(es.take lo ++ [(⟨.slice s kn c2,k,.slice B f l,v⟩:En)] ++ es.drop d).length=lo+1+(j - d):=by rw[List.length_append,h6,List.length_drop,hln.out]
 obtain⟨b7,c7,rfl⟩:=P7.blkc (by simp) h7;obtain⟨X',hRX,hX1,hX2,hX3⟩:=Z.out.laid hZ5 B7 P7 (E':=put E k v) (by rw[HPU.out,List.map_append,List.map_append,List.map_take,List.map_drop,HE.out];simp[En.kl2]) HPR.out.1 HPR.out.2;have FF:=ah (show ∃ X',RS (w7.setCell ⟨q,0,none⟩ (.slice (some ⟨b7,0,none⟩) (lo+1+(j - d)) c7)) z X' q (put E k v) W (n+1)/\(∀ b,X' b->X b\/w.heap.size<=b)/\(∀ b,X b->X' b)/\Chg (XU w X) w (w7.setCell ⟨q,0,none⟩ (.slice (some ⟨b7,0,none⟩) (lo+1+(j - d)) c7)) from⟨X',hRX,fun b hb=>(hX1 b hb).imp id (fun h=>by have:=I.out.size;have:=D.size;omega),hX2,((I.out.trans (Chg.of (F:=fun _=>False) D) (fun _ _ h=>h.elim)).trans hX3 (fun _ _ h=>h)).mono (fun x _ e=>by have e':x=q:=e;subst e';exact HX.out)⟩);have c06:=(Z.out.keep B6).top.cell (i:=0) rfl;have c07:=(Z.out.keep B7).top.cell (i:=0) rfl;have f07:=(Z.out.keep B7).top.free 0;clear P6 S7 P7 hRX hX1 hX2 hX3 HR1 Z HPU HPR D hZ5 c05
 have hlob:lo<=1000000:=by have:=t.out;omega
 rename_i hK0;refine hK0 _ _ ?_
 clear hK0
 cases is with
 | false =>
  refine wp_seq ?_
  refine wp_seq ?_
  refine wp_region_lit ?_
  refine fQ 51 (.bool false) ?_
  refine mz ?_
  refine wp_cond_false (by kernel_rfl) ?_
  refine rm ?_
  have hlz:((lo:Nat):Int)=(d:Int):=by have h:=hlp.out;simp at h;omega
  refine wp_seq ?_
  refine wp_region_lit ?_
  refine fQ 54 (.pointer (some ⟨q,0,none⟩)) ?_
  refine fQ 55 (.slice (some ⟨b6,0,none⟩) (lo+1) c6) ?_
  refine fQ 56 (.pointer (some ⟨q,0,none⟩)) ?_
  refine fQ 57 (.pointer (some ⟨q,0,none⟩)) ?_
  refine fQ 58 (.pointer (some ⟨q,0,none⟩)) ?_
  refine ib (some 59) (.slice la j lc) rfl rfl (dQ 58 (by kernel_rfl) (by kernel_rfl) (kQ c06)) ?_
  refine fQ 60 (.int .i64 lo) ?_
  refine ib (some 61) (.slice (nX la lc d) (j - d) (lc - d)) rfl rfl (gN (x:=59) (y:=60) L.out (by kernel_rfl) (by kernel_rfl) (by kernel_rfl) hlz c _) ?_
  refine sU (some 62) (.slice (some ⟨b7,0,none⟩) (lo+1+(j - d)) c7) rfl rfl (fC (x:=55) (y:=61) (T:=30) (ty:=30) (by kernel_rfl) (by kernel_rfl) (by kernel_rfl) (by kernel_rfl) hr7) ?_
  refine fQ 63 (.pointer (some ⟨q,0,none⟩)) ?_
  refine fQ 64 (.pointer (some ⟨q,0,none⟩)) ?_
  refine vw (w1:=w7.setCell ⟨q,0,none⟩ (.slice (some ⟨b7,0,none⟩) (lo+1+(j - d)) c7)) rfl rfl (jh 64 62 (by kernel_rfl) (by kernel_rfl) (by kernel_rfl) c07 f07) ?_
  refine mz ?_
  simp only[Act.put,List.setIfInBounds_toArray,List.set_cons_zero,List.set_cons_succ];go_wp2;go_ret;exact⟨rfl,FF.out⟩
 | true =>
  refine wp_seq ?_
  refine wp_seq ?_
  refine wp_region_lit ?_
  refine fQ 51 (.bool true) ?_
  refine mz ?_
  refine wp_cond_true (by kernel_rfl) ?_
  refine wp_region_lit ?_
  refine fQ 52 (.int .i64 lo) ?_
  refine ib (some 53) (.int .i64 ((lo:Int)+1)) rfl rfl (rL (x:=52) (by kernel_rfl) (by kernel_rfl) (by omega)) ?_
  refine fQ 7 (.int .i64 ((lo:Int)+1)) ?_
  refine mz ?_
  have hlz:((lo:Int)+1)=(d:Int):=by have h:=hlp.out;simp at h;omega
  refine wp_seq ?_
  refine wp_region_lit ?_
  refine fQ 54 (.pointer (some ⟨q,0,none⟩)) ?_
  refine fQ 55 (.slice (some ⟨b6,0,none⟩) (lo+1) c6) ?_
  refine fQ 56 (.pointer (some ⟨q,0,none⟩)) ?_
  refine fQ 57 (.pointer (some ⟨q,0,none⟩)) ?_
  refine fQ 58 (.pointer (some ⟨q,0,none⟩)) ?_
  refine ib (some 59) (.slice la j lc) rfl rfl (dQ 58 (by kernel_rfl) (by kernel_rfl) (kQ c06)) ?_
  refine fQ 60 (.int .i64 ((lo:Int)+1)) ?_
  refine ib (some 61) (.slice (nX la lc d) (j - d) (lc - d)) rfl rfl (gN (x:=59) (y:=60) L.out (by kernel_rfl) (by kernel_rfl) (by kernel_rfl) hlz c _) ?_
  refine sU (some 62) (.slice (some ⟨b7,0,none⟩) (lo+1+(j - d)) c7) rfl rfl (fC (x:=55) (y:=61) (T:=30) (ty:=30) (by kernel_rfl) (by kernel_rfl) (by kernel_rfl) (by kernel_rfl) hr7) ?_
  refine fQ 63 (.pointer (some ⟨q,0,none⟩)) ?_
  refine fQ 64 (.pointer (some ⟨q,0,none⟩)) ?_
  refine vw (w1:=w7.setCell ⟨q,0,none⟩ (.slice (some ⟨b7,0,none⟩) (lo+1+(j - d)) c7)) rfl rfl (jh 64 62 (by kernel_rfl) (by kernel_rfl) (by kernel_rfl) c07 f07) ?_
  refine mz ?_
  simp only[Act.put,List.setIfInBounds_toArray,List.set_cons_zero,List.set_cons_succ];go_wp2;go_ret;exact⟨rfl,FF.out⟩
theorem DY(h:RS w z X q E W n)(u:By w kv k)(t:By w vv v)(F:k.length=0)(hn:n<=4000000000000000000) :
  Calls Tryz.prog 8 #[.pointer (some ⟨q,0,none⟩),kv,vv] w (rG w z X q E W (n+1) 60):=by
 obtain⟨G,D,hb,-,-⟩:=h.ex;obtain⟨l,o⟩:=h.done (m:=n+1);obtain⟨ka,kc,rfl,-⟩:=id u.ex;obtain⟨va,vc,rfl,-⟩:=id t.ex;have d2:=hb.cell (i:=2) rfl;have f2:=hb.free 2
 have r:((n:Int)+1)=((n+1:Nat):Int):=by omega
 obtain⟨f,d⟩:∃ f,Hid (w.setCell ⟨q,2,none⟩ (.int .i64 ((n+1:Nat):Int))=f):=⟨_,rfl⟩
 have y:w.setCell ⟨q,2,none⟩ (.int .i64 ((n:Int)+1))=f:=by rw[r];exact d.out
 rw[d.out] at l o;have C:=ah (show ∃ X',RS f z X' q E W (n+1)/\(∀ b,X' b->X b\/w.heap.size<=b)/\(∀ b,X b->X' b)/\Chg (XU w X) w f from⟨X,l,fun _ h=>.inl h,fun _ h=>h,o.mono (fun x _ e=>by have B:x=q:=e;subst B;exact h.noU)⟩);obtain⟨kn,c⟩:∃ kn,Hid (k.length=kn):=⟨_,rfl⟩
 obtain⟨s,g⟩:∃ s,Hid (v.length=s):=⟨_,rfl⟩
 rw[c.out,g.out];have j:=c.out;have p:=g.out
 have A:((kn:Int) < 1):=by omega
 clear hb l o h u t r j p;go_enter Tryz.func8,Tryz.ntmps8;go_wp2;go_ret;exact⟨rfl,C.out⟩
theorem Cr(h:RS w z X q E W n)(u:By w kv k)(t:By w vv v)(G:64 < k.length)(hn:n<=4000000000000000000) :
  Calls Tryz.prog 8 #[.pointer (some ⟨q,0,none⟩),kv,vv] w (rG w z X q E W (n+1) 60):=by
 obtain⟨H,F,hb,-,-⟩:=h.ex;obtain⟨l,o⟩:=h.done (m:=n+1);obtain⟨ka,kc,rfl,-⟩:=id u.ex;obtain⟨va,vc,rfl,-⟩:=id t.ex;have d2:=hb.cell (i:=2) rfl;have f2:=hb.free 2
 have r:((n:Int)+1)=((n+1:Nat):Int):=by omega
 obtain⟨f,d⟩:∃ f,Hid (w.setCell ⟨q,2,none⟩ (.int .i64 ((n+1:Nat):Int))=f):=⟨_,rfl⟩
 have y:w.setCell ⟨q,2,none⟩ (.int .i64 ((n:Int)+1))=f:=by rw[r];exact d.out
 rw[d.out] at l o;have D:=ah (show ∃ X',RS f z X' q E W (n+1)/\(∀ b,X' b->X b\/w.heap.size<=b)/\(∀ b,X b->X' b)/\Chg (XU w X) w f from⟨X,l,fun _ h=>.inl h,fun _ h=>h,o.mono (fun x _ e=>by have C:x=q:=e;subst C;exact h.noU)⟩);obtain⟨kn,c⟩:∃ kn,Hid (k.length=kn):=⟨_,rfl⟩
 obtain⟨s,g⟩:∃ s,Hid (v.length=s):=⟨_,rfl⟩
 rw[c.out,g.out];have j:=c.out;have p:=g.out
 have B:¬ ((kn:Int) < 1):=by omega
 have A:((64:Int) < kn):=by omega
 clear hb l o h u t r j p;go_enter Tryz.func8,Tryz.ntmps8;go_wp2;go_ret;exact⟨rfl,D.out⟩
theorem DQ(h:RS w z X q E W n)(u:By w kv k)(t:By w vv v)(I:¬ k.length=0)(J:¬ 64 < k.length)(G:4096 < v.length)(hn:n<=4000000000000000000) :
  Calls Tryz.prog 8 #[.pointer (some ⟨q,0,none⟩),kv,vv] w (rG w z X q E W (n+1) 61):=by
 obtain⟨K,H,hb,-,-⟩:=h.ex;obtain⟨l,p⟩:=h.done (m:=n+1);obtain⟨ka,kc,rfl,-⟩:=id u.ex;obtain⟨va,vc,rfl,-⟩:=id t.ex;have d2:=hb.cell (i:=2) rfl;have f2:=hb.free 2
 have s:((n:Int)+1)=((n+1:Nat):Int):=by omega
 obtain⟨f,d⟩:∃ f,Hid (w.setCell ⟨q,2,none⟩ (.int .i64 ((n+1:Nat):Int))=f):=⟨_,rfl⟩
 have y:w.setCell ⟨q,2,none⟩ (.int .i64 ((n:Int)+1))=f:=by rw[s];exact d.out
 rw[d.out] at l p;have F:=ah (show ∃ X',RS f z X' q E W (n+1)/\(∀ b,X' b->X b\/w.heap.size<=b)/\(∀ b,X b->X' b)/\Chg (XU w X) w f from⟨X,l,fun _ h=>.inl h,fun _ h=>h,p.mono (fun x _ e=>by have D:x=q:=e;subst D;exact h.noU)⟩);obtain⟨kn,c⟩:∃ kn,Hid (k.length=kn):=⟨_,rfl⟩
 obtain⟨o,g⟩:∃ o,Hid (v.length=o):=⟨_,rfl⟩
 rw[c.out,g.out];have j:=c.out;have r:=g.out
 have C:¬ ((kn:Int) < 1):=by omega
 have B:¬ ((64:Int) < kn):=by omega
 have A:((4096:Int) < o):=by omega
 clear hb l p h u t s j r;go_enter Tryz.func8,Tryz.ntmps8;go_wp2;go_ret;exact⟨rfl,F.out⟩
theorem rset(h:RS w z X q E W n)(l:∀ b,w.heap.size<=b->z b)(c:By w kv k)(d:By w vv v)(j:By (w.setCell ⟨q,2,none⟩ (.int .i64 ((n+1:Nat):Int))) kv k)(i:By (w.setCell ⟨q,2,none⟩ (.int .i64 ((n+1:Nat):Int))) vv v)(hn:n<=4000000000000000000)(hm:E.length<=1000000) :
  Calls Tryz.prog 8 #[.pointer (some ⟨q,0,none⟩),kv,vv] w (rG w z X q (if eH k v=0 then put E k v else E) W (n+1) (eH k v)):=by
 by_cases a:k.length=0
 ·have e:eH k v=60:=by unfold eH; rw[if_pos (.inl a)]
  rw[e,if_neg (by decide)];exact DY h c d a hn
 ·by_cases g:64 < k.length
  ·have e:eH k v=60:=by unfold eH; rw[if_pos (.inr g)]
   rw[e,if_neg (by decide)];exact Cr h c d g hn
  ·by_cases f:4096 < v.length
   ·have e:eH k v=61:=by unfold eH; rw[if_neg (by omega),if_pos f]
    rw[e,if_neg (by decide)];exact DQ h c d a g f hn
   ·have e:eH k v=0:=by unfold eH; rw[if_neg (by omega),if_neg f]
    rw[e,if_pos rfl];exact Dx h l c d j i a (by omega) (by omega) hn hm
end
end Kv
end
section
open Pg (ax bJ aB aO cB)
namespace Kv
open Go.RowKit Go.Lib Pg
attribute [local go_sem] Oper.semAt_some
section
variable {w:World}{z X:Nat->Prop}{q n:Nat}{W:List ay}{a7:Option Addr}{kv:Value}{k:List Int}
theorem qX{a:Act}{w':World}{o:Oper}{y:Nat}{T ty:TypeId}{u v r:Value}(b:o.type=ty)(c:o.op=.call { callee:=.builtin .append,args:=#[.const u,.tmp y],argTypes:=#[T,T] })(hy:a.eval (.tmp y)=v)(d:(Builtin.append_ #[T,T] ty #[u,v]).run Tryz.prog w=.ok r w') :
  (execOp a.eval o).run Tryz.prog w=.ok (.value r) w':=by
 subst b;unfold execOp
 have hx:a.eval (.const u)=u:=rfl;simp only[c,resolve,invoke,builtin,Sem.run_bind,Sem.run_pure,Result.andThen_ok,List.map_toArray,List.map_cons,List.map_nil,hx,hy,d]
theorem RO.laidA{a:World}{lv wv:Value}{es f:List En}{k g:Nat}(h:RO w z X q lv wv es W n)(t:∀ b,w.heap.size<=b->z b)(B:Below w.heap.size w a)(p:Pq a w.heap.size z (.slice a7 k g) f){E':ay}(l:f.map En.kl2=E')(o:cI E')(r:∀ x∈E',x.1.length<=1000000000/\x.2.length<=1000000000) :
  ∃ X',RS (a.setCell ⟨q,0,none⟩ (.slice a7 k g)) z X' q E' W n/\(∀ b,X' b->X b\/w.heap.size<=b)/\(∀ b,X b->X' b)/\Chg (·=q) w (a.setCell ⟨q,0,none⟩ (.slice a7 k g)):=by
 rcases p.ex with⟨e,e2⟩ | ⟨b,c,e,_⟩
 ·cases e;have d:=h.keep B
  have j:Chg (·=q) a (a.setCell ⟨q,0,none⟩ (.slice none 0 0)):=(Chg.refl (fun x=>x=q) a).cell (.inl rfl) _;have s:=j.size;subst e2;exact⟨X,⟨⟨_,_,d.top.setCell (i:=0) _,⟨⟨[],Pq.nil _ _ _,l⟩,fun b m c e=>by cases e⟩,d.was.chg j (fun b e _=>by subst e;exact⟨_,_,d.top,by decide,by decide⟩) d.noU⟩,h.xq,fun b hx=>⟨(d.xz b hx).1,by have:=(d.xz b hx).2;omega⟩,o,r⟩,fun _ h=>.inl h,fun _ h=>h,(Chg.of (F:=fun x=>x=q) B).trans j (fun _ _ h=>h)⟩
 ·cases e;exact h.laid t B p l o r
structure FinRY(w:World)(z:Nat->Prop)(X:Nat->Prop)(q:Nat)(E:ay)(W:List ay)(n:Nat)(r:Bool)(e:Ending)(w':World):Prop where
 ret:e=.returned (.bool r)
 ex:∃ X',RS w' z X' q E W n/\(∀ b,X' b->X b\/w.heap.size<=b)/\(∀ b,X b->X' b)/\Chg (XU w X) w w'
theorem rdel{E:ay}(h:RS w z X q E W n)(hZ:∀ b,w.heap.size<=b->z b)(hk:By w kv k)(L:By (w.setCell ⟨q,2,none⟩ (.int .i64 ((n+1:Nat):Int))) kv k)(hkl:k.length<=1000000000)(hn:n<=4000000000000000000)(hm:E.length<=1000000) :
  Calls Tryz.prog 55 #[.pointer (some ⟨q,0,none⟩),kv] w (FinRY w z X q (rem E k) W (n+1) (look E k).isSome):=by
 obtain⟨lv,wv,es,J,he⟩:=h.ro;obtain⟨I,C1⟩:=J.done (m:=n+1)
 have l:es.length=E.length:=by rw[<- he,List.length_map]
 have up:=uC (m:=E.length) I.top I.row (by rw[he];exact h.dA) L hkl (fun e hx=>(h.small e.kl2 (by rw[<- he];exact List.mem_map_of_mem hx)).1) l hm;rw[he] at up;obtain⟨R,-,-,k4⟩:=ju h.dA k;obtain⟨t,lc,rfl⟩:=J.row.shape;obtain⟨ka,kc,rfl,-⟩:=id hk.ex;obtain⟨lo,K⟩:∃ lo,Hid (cnt E k=lo):=⟨_,rfl⟩
 have p:lo<=es.length:=by rw[<- K.out,l];exact kB E k
 have M:cI (rem E k)/\∀ x∈rem E k,x.1.length<=1000000000/\x.2.length<=1000000000:=⟨h.dA.rem k,fun x hx=>h.small x (List.mem_filter.1 hx).1⟩
 rw[K.out] at R k4;obtain⟨kn,U⟩:∃ kn,Hid (k.length=kn):=⟨_,rfl⟩
 obtain⟨s,hln⟩:∃ s,Hid (es.length=s):=⟨_,rfl⟩
 rw[K.out,U.out] at up;rw[U.out];rw[hln.out] at J I;have d2:=J.top.cell (i:=2) rfl;have f2:=J.top.free 2
 have e5:((n:Int)+1)=((n+1:Nat):Int):=by omega
 obtain⟨W1,ad⟩:∃ W1,Hid (w.setCell ⟨q,2,none⟩ (.int .i64 ((n+1:Nat):Int))=W1):=⟨_,rfl⟩
 have hW2:w.setCell ⟨q,2,none⟩ (.int .i64 ((n:Int)+1))=W1:=by rw[e5];exact ad.out
 rw[ad.out] at up I C1;have ac:=ah I;have ab:=ah C1;have HE:=ah he;have HX:=ah h.noU;have Y:=ah M;have u:=ah k4
 have hZ':=ah hZ
 have C:=ah l;have hqx:=(h.xz q h.xq).2
 have hCX:Hid (Chg (XU w X) w W1):=C1.mono (fun x _ e=>by have e':x=q:=e;subst e';exact h.noU);have hsm:=ah h.small;have hri:=ah h.dA
 cases hl:(look E k).isSome with
 | false =>
  rw[hl] at up u
  have g:=ah up
  have D:rem E k=E:=by rw[u.out];simp
  rw[D];clear I C1 up h hk L he e5 l J R k4 M hZ D;go_enter Tryz.func55,Tryz.ntmps55;go_wp2_with (go_at_call 35;go_must (refine g.out.mono ?_);rintro e w2 ⟨rfl,N⟩;clear g);go_ret;exact⟨rfl,X,(ac.out.keep N).rs HE.out hri.out hsm.out,fun _ h=>.inl h,fun _ h=>h,hCX.out.trans (Chg.of (F:=XU w X) N) (fun _ _ h=>h)⟩
 | true =>
  rw[hl] at up u R
  have g:=ah up
  have d:lo+1<=es.length:=by
   cases e:E[lo]? with
   | none=>rw[e] at R;cases R
   | some y=>have:=(List.getElem?_eq_some_iff.1 e).1;omega
  have hlob:lo<=1000000:=by omega
  have H:((lo:Int)+1)=((lo+1:Nat):Int):=by omega
  clear I C1 up h hk L he e5 l J R k4 M hZ;go_enter Tryz.func55,Tryz.ntmps55;go_wp2_with (go_at_call 35;go_must (refine g.out.mono ?_);rintro e o ⟨rfl,N⟩;clear g);have Q:=ah ((ac.out.keep N).keep (cE o));have c:=ah Q.out.row
  have hZ5:∀ b,o.drew.heap.size<=b->z b:=fun b hb=>hZ'.out b (by have:=ab.out.size;have:=N.size;have:o.heap.size<=b:=hb;omega)
  obtain⟨v5,w5,j,P5,S5⟩:=m9 (ov:=.slice none 0 0) (es:=[]) (Pq.nil o.drew o.drew.heap.size z) (Nat.le_refl _) c.out p (by have:=C.out;simp;omega);rw[List.nil_append] at P5;have Z:=eh S5 (Nat.le_refl _);obtain⟨v7,B,f,P7,S7⟩:=rE (i:=lo+1) P5 Z.size (c.out.keep Z) d (by rw[List.length_take];have:=C.out;omega);have b7:=Z.trans (eh S7 Z.size);obtain⟨A,G,rfl⟩:=P7.shape;obtain⟨r,hm7⟩:∃ r,Hid ((es.take lo ++ es.drop (lo+1)).length=r):=⟨_,rfl⟩
  rw[hm7.out] at f P7;obtain⟨X',hRX,V,aa,hX3⟩:=Q.out.laidA hZ5 b7 P7 (E':=rem E k) (by rw[u.out,List.map_append,List.map_take,List.map_drop,HE.out];simp) Y.out.1 Y.out.2;have FF:=ah (show ∃ X',RS (B.setCell ⟨q,0,none⟩ (.slice A r G)) z X' q (rem E k) W (n+1)/\(∀ b,X' b->X b\/w.heap.size<=b)/\(∀ b,X b->X' b)/\Chg (XU w X) w (B.setCell ⟨q,0,none⟩ (.slice A r G)) from⟨X',hRX,fun b hb=>(V b hb).imp id (fun h=>by have:=ab.out.size;have:=N.size;have:o.heap.size<=b:=h;omega),aa,(hCX.out.trans (Chg.of (F:=XU w X) (ai N (cE o))) (fun _ _ h=>h)).trans hX3 (fun x _ e=>by have e':x=q:=e;subst e';exact HX.out)⟩);have v:=ah (Q.out.top.cell (i:=0) rfl);have c05:=ah ((Q.out.keep Z).top.cell (i:=0) rfl);have O:=ah ((Q.out.keep b7).top.cell (i:=0) rfl);have P:=ah ((Q.out.keep b7).top.free 0);replace j:=ah j;replace f:=ah f;clear P5 S5 P7 S7 hRX V aa hX3 hZ5;refine bJ (S:=fun _=>True) (by kernel_rfl) trivial ?_
  refine ax 0 21 (.pointer (some ⟨q,0,none⟩)) (by kernel_rfl) (fun _ _=>by kernel_rfl) i3 trivial ?_
  refine ax 1 22 (.pointer (some ⟨q,0,none⟩)) (by kernel_rfl) (fun _ _=>by kernel_rfl) i3 trivial ?_
  refine ax 2 23 (.pointer (some ⟨q,0,none⟩)) (by kernel_rfl) (fun _ _=>by kernel_rfl) i3 trivial ?_
  refine ax 3 24 (.pointer (some ⟨q,0,none⟩)) (by kernel_rfl) (fun _ _=>by kernel_rfl) i3 trivial ?_
  refine ax 5 26 (.int .i64 lo) (by kernel_rfl) (fun _ _=>by kernel_rfl) i3 trivial ?_
  refine ax 8 29 (.pointer (some ⟨q,0,none⟩)) (by kernel_rfl) (fun _ _=>by kernel_rfl) i3 trivial ?_
  refine ax 9 30 (.pointer (some ⟨q,0,none⟩)) (by kernel_rfl) (fun _ _=>by kernel_rfl) i3 trivial ?_
  refine ax 10 31 (.pointer (some ⟨q,0,none⟩)) (by kernel_rfl) (fun _ _=>by kernel_rfl) i3 trivial ?_
  refine ax 12 33 (.int .i64 lo) (by kernel_rfl) (fun _ _=>by kernel_rfl) i3 trivial ?_
  refine ax 13 34 (.int .i64 ((lo:Int)+1)) (by kernel_rfl) (fun _ _=>rL (x:=33) (by kernel_rfl) (by kernel_rfl) (by omega)) i3 trivial ?_
  refine aB [4,11] (by kernel_rfl) (by simp) (aO 4 (some 25) (.slice t s lc) (o.drew) (by kernel_rfl) (dQ 24 (by kernel_rfl) (by kernel_rfl) (kQ v.out)) trivial ?_ (aO 11 (some 32) (.slice t s lc) (o.drew) (by kernel_rfl) (dQ 31 (by kernel_rfl) (by kernel_rfl) (kQ v.out)) trivial ?_ aL))
  ·refine ax 6 27 (.slice t lo lc) (by kernel_rfl) (fun _ _=>mi (x:=25) (y:=26) c.out (by kernel_rfl) (by kernel_rfl) (by kernel_rfl) p _) i3 trivial ?_
   refine aB [7,11] (by kernel_rfl) (by simp) (aO 7 (some 28) v5 w5 (by kernel_rfl) (qX (y:=27) (T:=30) (ty:=30) (by kernel_rfl) (by kernel_rfl) (by kernel_rfl) j.out) trivial ?_ (aO 11 (some 32) (.slice t s lc) (o.drew) (by kernel_rfl) (dQ 31 (by kernel_rfl) (by kernel_rfl) (kQ v.out)) trivial ?_ aL))
   ·refine aB [11] (by kernel_rfl) (by simp) (aO 11 (some 32) (.slice t s lc) (w5) (by kernel_rfl) (dQ 31 (by kernel_rfl) (by kernel_rfl) (kQ c05.out)) trivial ?_ aL);refine ax 14 35 (.slice (nX t lc (lo+1)) (s - (lo+1)) (lc - (lo+1))) (by kernel_rfl) (fun _ _=>gN (x:=32) (y:=34) c.out (by kernel_rfl) (by kernel_rfl) (by kernel_rfl) H d _) i3 trivial ?_
    refine aB [15] (by kernel_rfl) (by simp) (aO 15 (some 36) (.slice A r G) B (by kernel_rfl) (fC (x:=28) (y:=35) (T:=30) (ty:=30) (by kernel_rfl) (by kernel_rfl) (by kernel_rfl) (by kernel_rfl) f.out) trivial ?_ aL);refine ax 16 37 (.pointer (some ⟨q,0,none⟩)) (by kernel_rfl) (fun _ _=>by kernel_rfl) i3 trivial ?_
    refine ax 17 38 (.pointer (some ⟨q,0,none⟩)) (by kernel_rfl) (fun _ _=>by kernel_rfl) i3 trivial ?_
    refine aB [18] (by kernel_rfl) (by simp) (cB 18 (B.setCell ⟨q,0,none⟩ (.slice A r G)) (by kernel_rfl) (jh 38 36 (by kernel_rfl) (by kernel_rfl) (by kernel_rfl) O.out P.out) trivial ?_ aL);refine bh (by kernel_rfl) ?_
    simp only[Act.put,List.setIfInBounds_toArray,List.set_cons_zero,List.set_cons_succ];go_wp2;go_ret;exact⟨rfl,FF.out⟩
   ·refine ax 14 35 (.slice (nX t lc (lo+1)) (s - (lo+1)) (lc - (lo+1))) (by kernel_rfl) (fun _ _=>gN (x:=32) (y:=34) c.out (by kernel_rfl) (by kernel_rfl) (by kernel_rfl) H d _) i3 trivial ?_
    refine aB [7] (by kernel_rfl) (by simp) (aO 7 (some 28) v5 w5 (by kernel_rfl) (qX (y:=27) (T:=30) (ty:=30) (by kernel_rfl) (by kernel_rfl) (by kernel_rfl) j.out) trivial ?_ aL);refine aB [15] (by kernel_rfl) (by simp) (aO 15 (some 36) (.slice A r G) B (by kernel_rfl) (fC (x:=28) (y:=35) (T:=30) (ty:=30) (by kernel_rfl) (by kernel_rfl) (by kernel_rfl) (by kernel_rfl) f.out) trivial ?_ aL);refine ax 16 37 (.pointer (some ⟨q,0,none⟩)) (by kernel_rfl) (fun _ _=>by kernel_rfl) i3 trivial ?_
    refine ax 17 38 (.pointer (some ⟨q,0,none⟩)) (by kernel_rfl) (fun _ _=>by kernel_rfl) i3 trivial ?_
    refine aB [18] (by kernel_rfl) (by simp) (cB 18 (B.setCell ⟨q,0,none⟩ (.slice A r G)) (by kernel_rfl) (jh 38 36 (by kernel_rfl) (by kernel_rfl) (by kernel_rfl) O.out P.out) trivial ?_ aL);refine bh (by kernel_rfl) ?_
    simp only[Act.put,List.setIfInBounds_toArray,List.set_cons_zero,List.set_cons_succ];go_wp2;go_ret;exact⟨rfl,FF.out⟩
  ·refine ax 14 35 (.slice (nX t lc (lo+1)) (s - (lo+1)) (lc - (lo+1))) (by kernel_rfl) (fun _ _=>gN (x:=32) (y:=34) c.out (by kernel_rfl) (by kernel_rfl) (by kernel_rfl) H d _) i3 trivial ?_
   refine aB [4] (by kernel_rfl) (by simp) (aO 4 (some 25) (.slice t s lc) (o.drew) (by kernel_rfl) (dQ 24 (by kernel_rfl) (by kernel_rfl) (kQ v.out)) trivial ?_ aL);refine ax 6 27 (.slice t lo lc) (by kernel_rfl) (fun _ _=>mi (x:=25) (y:=26) c.out (by kernel_rfl) (by kernel_rfl) (by kernel_rfl) p _) i3 trivial ?_
   refine aB [7] (by kernel_rfl) (by simp) (aO 7 (some 28) v5 w5 (by kernel_rfl) (qX (y:=27) (T:=30) (ty:=30) (by kernel_rfl) (by kernel_rfl) (by kernel_rfl) j.out) trivial ?_ aL);refine aB [15] (by kernel_rfl) (by simp) (aO 15 (some 36) (.slice A r G) B (by kernel_rfl) (fC (x:=28) (y:=35) (T:=30) (ty:=30) (by kernel_rfl) (by kernel_rfl) (by kernel_rfl) (by kernel_rfl) f.out) trivial ?_ aL);refine ax 16 37 (.pointer (some ⟨q,0,none⟩)) (by kernel_rfl) (fun _ _=>by kernel_rfl) i3 trivial ?_
   refine ax 17 38 (.pointer (some ⟨q,0,none⟩)) (by kernel_rfl) (fun _ _=>by kernel_rfl) i3 trivial ?_
   refine aB [18] (by kernel_rfl) (by simp) (cB 18 (B.setCell ⟨q,0,none⟩ (.slice A r G)) (by kernel_rfl) (jh 38 36 (by kernel_rfl) (by kernel_rfl) (by kernel_rfl) O.out P.out) trivial ?_ aL);refine bh (by kernel_rfl) ?_
   simp only[Act.put,List.setIfInBounds_toArray,List.set_cons_zero,List.set_cons_succ];go_wp2;go_ret;exact⟨rfl,FF.out⟩
end
end Kv
end
end Go.Proofs.YtidnifmehnjipaaGreat
