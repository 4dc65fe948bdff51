import Derived.Test.YtidnifmehnjipaaGreatJax
import Derived.Test.YtidnifmehnjipaaGreatJay
set_option maxRecDepth 100000
set_option maxHeartbeats 8000000
namespace Go.Proofs.YtidnifmehnjipaaGreat
section
namespace Qu
open Go.RowKit Go.Lib Pg Lim Gl Kv Bk Pw
attribute [local go_sem] Oper.semAt_some
set_option linter.unusedVariables false
set_option linter.unusedSimpArgs false
section
variable {w:World}{v h:Int}{l:List Int}{r n i B q g N:Nat}{a:Option Addr}{es:List En}{e:En}{X K:Nat->Prop}{E:ay}{W:List ay}
theorem Da{v:Value}(j:∀ k:Nat,k < 18->Ky.frm k=Ky.frm r->k=r)(f:r < 18)(d:0 < r)(a:(Ky.frm r).1=17)(h:By w v l)(hf:Ky.frm r=Ky.fIn l):Calls Tryz.prog 157 #[v] w fun e w'=>e=.returned (.tuple #[.agg #[.int .i64 (r:Int),.int .u64 (Ky.rdA r l),.int .u64 (Ky.rdB l)],.int .i64 0])/\Below w.heap.size w w':=by
 have g:l.length=17:=by
  have e:=congrArg Prod.fst hf;rw[a] at e;unfold Ky.fIn at e;simp only at e;omega
 obtain⟨n,c,rfl,q,m,s,p,i⟩:=id h.ex;rcases i with rfl | ⟨b,o,rfl,_⟩
 ·simp at g
 rw[g] at h ⊢;exact Ks.Es h f d hf j
theorem Bq{kv vv:Value}{kl vl:List Int}(J:∀ k:Nat,k < 18->Ky.frm k=Ky.frm r->k=r)(y:r < 18)(x:0 < r)(v:(Ky.frm r).1=17)(i:ByU w kv kl)(F:kl.length<=1000000000)(O:0 < kl.length)(hf:Ky.frm r=Ky.fIn kl)(g:ByU w vv vl):Calls Tryz.prog 110 #[.agg #[kv,vv]] w fun e w'=>e=.returned (.tuple #[.agg #[.int .i64 (r:Nat),.int .u64 (Ky.rdA r kl),.int .u64 (Ky.rdB kl)],.agg #[.int .u64 (Ky.rdB kl),.int .i64 (wrap64 (bE vl))]])/\Below w.heap.size w w':=by
 have f:=Below.refl w.heap.size w;obtain⟨p,s⟩:∃ k,wrap64 (bE vl)=k:=⟨_,rfl⟩
 refine aC (n:=26) Tryz.func110 rfl ?_
 refine ab (ag (ta 1 [kv,vv] 96 (pg) ?_));intro v1 q a I B;replace f:=ai f B;replace i:=aA i B;replace g:=aA g B;have l:=a.lt;refine ta 2 [iI 0,iU 0,iU 0] 90 (pg) ?_
 intro N m b H B;replace f:=ai f B;replace i:=aA i B;replace g:=aA g B;replace a:=a.keep B;have l:=a.lt;have u:=b.lt;refine ta 3 [iU 0,iI 0] 61 (pg) ?_
 intro P o c E B;replace f:=ai f B;replace i:=aA i B;replace g:=aA g B;replace a:=a.keep B;replace b:=b.keep B;refine ae (aa (ab (ag (t 9 (pg q) (tl 10 (kv) a 0 (tc 11 157 #[kv] (Da (r:=r) J y x v i.byt hf) ?_))))));rintro _ L ⟨rfl,B⟩;refine⟨_,rfl,?_⟩;replace f:=ai f B;replace i:=aA i B;replace g:=aA g B;replace a:=a.keep B;replace b:=b.keep B;replace c:=c.keep B;clear i;refine t 8 (.tuple #[.agg #[iI (r:Nat),iU (Ky.rdA r kl),iU (Ky.rdB kl)],iI 0]) (t 12 (.agg #[iI (r:Nat),iU (Ky.rdA r kl),iU (Ky.rdB kl)]) (t 13 (iI 0) ?_));have l:=a.lt;have u:=b.lt;have A:=c.lt;refine ta 4 [iI 0,iU 0,iU 0] 90 (pg) ?_
 intro M j d K B;replace f:=ai f B;replace g:=aA g B;replace a:=a.keep B;replace b:=b.keep B;replace c:=c.keep B;refine ts d 0 (.agg #[iI (r:Nat),iU (Ky.rdA r kl),iU (Ky.rdB kl)]) [iI (r:Nat),iU (Ky.rdA r kl),iU (Ky.rdB kl)] [iI (r:Nat),iU (Ky.rdA r kl),iU (Ky.rdB kl)] ?_
 intro v10 Y C;replace f:=aS f C (by omega);replace g:=bP g d C (by decide);replace a:=a.chg C (show q≠j by omega);replace b:=b.chg C (show m≠j by omega);replace c:=c.chg C (show o≠j by omega);have d:=Y;refine t 5 (iI 0) (ae (aa (aG [(1,pg q),(2,pg m),(3,pg o),(4,pg j)] (ab (ag (t 15 (pq q 1) (tl 16 (vv) a 1 (tc 17 108 #[vv] (nO g) ?_))))))));rintro _ v11 ⟨rfl,B⟩;refine⟨_,rfl,?_⟩;replace f:=ai f B;replace g:=aA g B;replace a:=a.keep B;replace b:=b.keep B;replace c:=c.keep B;replace d:=d.keep B;clear g;refine t 14 (.tuple #[iU (bE vl),iI (Rc.aV (Rc.bM vl))]) (t 18 (iU (bE vl)) (t 19 (iI (Rc.aV (Rc.bM vl))) (t 6 (iU (bE vl)) (t 7 (iI (Rc.aV (Rc.bM vl))) (ae (aa (ab ?_)))))));replace f:=f.drew;replace a:=a.drew;replace b:=b.drew;replace c:=c.drew;replace d:=d.drew;refine bI (fun w'=>Blk w' j [iI (r:Nat),iU (Ky.rdA r kl),iU (Ky.rdB kl)] 90) (fun _=>false) d ?_
 refine zlr 0 20 [iI (r:Nat),iU (Ky.rdA r kl),iU (Ky.rdB kl)] (fun _ h=>h) 0 (z 1 21 (pq j 2) (zl 2 22 (iU (Ky.rdB kl)) (fun _ h=>h) 2 (z 3 23 (iU (bE vl)) (zr 4 24 (iI p) (fun _ _=>Cw s) (zr 5 25 (.agg #[iU (Ky.rdB kl),iI p]) (fun _ _=>iJ) (zs 6 b 0 (.agg #[iI (r:Nat),iU (Ky.rdA r kl),iU (Ky.rdB kl)]) [iI (r:Nat),iU (Ky.rdA r kl),iU (Ky.rdB kl)] [iI (r:Nat),iU (Ky.rdA r kl),iU (Ky.rdB kl)] ?_))))));intro G Y C;replace f:=aS f C (by omega);replace a:=a.chg C (show q≠m by omega);replace c:=c.chg C (show o≠m by omega);replace d:=d.chg C (show j≠m by omega);have b:=Y;refine⟨d,?_⟩;refine zs 7 c 0 (.agg #[iU (Ky.rdB kl),iI p]) [iU (Ky.rdB kl),iI p] [iU (Ky.rdB kl),iI p] ?_
 intro D Y C;replace f:=aS f C (by omega);replace a:=a.chg C (show q≠o by omega);replace b:=b.chg C (show m≠o by omega);replace d:=d.chg C (show j≠o by omega);have c:=Y;refine⟨d,?_⟩;refine bB (aa (aG [(2,pg m),(3,pg o)] (aF (aE (.tuple #[.agg #[iI (r:Nat),iU (Ky.rdA r kl),iU (Ky.rdB kl)],.agg #[iU (Ky.rdB kl),iI p]]) (rscc 2 3 (T:=90) (U:=61) (by kernel_rfl) (by kernel_rfl) (by kernel_rfl) (lr b 0) (lr c 0)) ?_))));rw[s];exact⟨rfl,f⟩
theorem Cp:∀ k:Nat,k < 18->Ky.frm k=Ky.frm (14:Nat)->k=14:=by decide +kernel
theorem Du:∀ k:Nat,k < 18->Ky.frm k=Ky.frm (15:Nat)->k=15:=by decide +kernel
theorem ByU.take{c:Nat}(h:ByU w (.slice a n c) l)(m:Nat)(hm:m<=n):ByU w (.slice a m c) (l.take m):=⟨Ky.By.take h.byt m hm,fun b o k d e=>by cases e;exact h.u8 b o n c rfl⟩
theorem zH{k a:Int}(A:0<=a)(B:a < 18446744073709551616)(i:16 < (Ky.frm k).1):Calls Tryz.prog 111 #[.int .i64 k,.int .u64 a] w fun e w'=>∃ v,e=.returned (.tuple #[v,.int .i64 0])/\ByU w' v (Ky.mkb (Ky.frm k) (Ky.tn k a))/\Below w.heap.size w w':=by
 have u1:=fun w=>Ky.j1 (w:=w) (k:=k)
 have u2:=fun w=>Ky.kJ (w:=w) (k:=k) (a:=a) (b:=0) A B
 obtain⟨n,N,m0,m1,hf,t,m,y,f,hm,p,q,u,o⟩:=Ky.vN k
 ·have s:Ky.mkE k a 0=false:=by unfold Ky.mkE; simp; omega
  have r:=Ky.xu (a:=a) i
  have hlen:8<=(Ky.mk k a 0).length:=by
   unfold Ky.mk;rw[if_pos i];simp[Ky.aD]
  rw[s] at u2;rw[<- r];rw[hf] at i u1;simp only[t] at u1
  have x:¬ ((N:Int) < 2):=by have:=f;simp only at i;omega
  clear hf t y f hm p q u o s r m;generalize hmk:Ky.mk k a 0=L at *;simp only[Bool.false_eq_true,if_false] at u2;obtain⟨c,g⟩:∃ c,Hid (L.length=c):=⟨_,rfl⟩
  rw[g.out] at hlen ⊢;have C:=ah hlen
  have g1:(8:Int)<=c:=by omega
  clear hmk i hlen;go_enter Tryz.func111,Tryz.ntmps111;go_wp2_with first
   | (go_at_call 88;refine(u1 _).mono ?_;rintro e E ⟨rfl,rfl⟩)
   | (go_at_call 37;go_loud (refine(u2 _).mono ?_;rintro e G ⟨v2,rfl,l,z⟩;obtain⟨D,c2,rfl⟩:=Ky.OB.sh l;rw[g.out] at l ⊢;have j:=ByU.of l;have d:=(Ky.By.lens j.byt).2;have F:(c:Int) - 8<=c2:=(by omega);have H:IntKind.i64.wrap ((c:Int) - 8)=((c - 8:Nat):Int):=(by rw[IntKind.wrap_i64];omega);replace j:=ah j;clear l d))
  go_ret2;exact⟨_,rfl,ByU.take j.out (c - 8) (by omega),z⟩
def LD(es:List En)(h:Int)(i:Nat):List (Int × Int):=((es.take i).filter (fun e=>decide (Ky.rdA 14 e.kl<=h))).map dr
def LF(es:List En)(i:Nat):List (Int × Int):=(es.take i).map dr
theorem LD_len(es:List En)(h:Int)(i:Nat):(LD es h i).length<=i:=by
 unfold LD;rw[List.length_map];exact Nat.le_trans (List.length_filter_le _ _) (by rw[List.length_take];omega)
theorem LF_len(es:List En)(i:Nat):(LF es i).length<=i:=by
 unfold LF;rw[List.length_map,List.length_take];omega
theorem LD_yes(he:es[i]?=some e)(hc:Ky.rdA 14 e.kl<=h):LD es h (i+1)=LD es h i ++ [dr e]:=by
 unfold LD;rw[List.take_add_one,he,List.filter_append,List.map_append];simp[hc]
theorem LD_no(he:es[i]?=some e)(hc:¬ Ky.rdA 14 e.kl<=h):LD es h (i+1)=LD es h i:=by
 unfold LD;rw[List.take_add_one,he,List.filter_append,List.map_append];simp[hc]
theorem LF_yes(he:es[i]?=some e):LF es (i+1)=LF es i ++ [dr e]:=by
 unfold LF;rw[List.take_add_one,he,List.map_append];rfl
structure Ff(B:Nat)(w:World)(X:Nat->Prop)(q:Nat)(E:ay)(n:Nat)(l:List (Int × Int))(e:Ending)(w':World):Prop where
 ex:∃ v,e=.returned v/\EA w' w.heap.size v l/\∃ X' n',Rx B w' X' q E n'/\n'<=n+1+E.length/\(∀ b,X' b->X b\/w.heap.size<=b)/\Chg (·=q) w w'
theorem rdue(h0:Rx B w X q E n)(hh:Uq h)(Q:Kys E)(hn:n<=3000000000000000000)(hm:E.length<=100000):Calls Tryz.prog 58 #[pg q,.int .u64 h] w (Ff B w X q E n (upto E (p14 h))):=by
 have hRk:=Q.k113;have O:=Below.refl w.heap.size w;refine aC (n:=36) Tryz.func58 rfl ?_
 refine ab (ag (t 4 (.slice none 0 0) (ae (aa (ab (ag (t 5 (.slice none 0 0) (ae (aa (ab (ag (t 10 (pg q) (ta 11 [.int .u8 113] 5 (sg 1) ?_)))))))))))));intro v1 g2 Xg2 hg2 B;replace O:=ai O B;refine tc 12 109 #[pg q,sg 1 g2] (all9 (h0.keep O) (byu1 (by decide) Xg2) (by decide) hn (by omega)) ?_
 rintro _ v3 ⟨vl,es,rfl,P,he,Y,n1,S,hn1,hY,C⟩;refine⟨_,rfl,?_⟩;obtain⟨H,I,rfl⟩:=P.shape
 have hml:es.length<=E.length:=by
  have:=congrArg List.length he;rw[List.length_map] at this;rw[this];exact List.length_filter_le _ _
 have N:∀ x∈es,Ky.frm (14:Nat)=Ky.fIn x.kl/\x.kl.length<=1000000000/\0 < x.kl.length:=fun x hx=>by
  have L:x.kl2∈E.filter (fun y=>decide ([113] <+: y.1)):=by rw[<- show es.map En.kl2=E.filter (fun y=>decide ([113] <+: y.1)) from he];exact List.mem_map.2 ⟨x,hx,rfl⟩
  have h1:=of_decide_eq_true (List.mem_filter.1 L).2;exact⟨hRk _ (List.mem_filter.1 L).1 h1,(S.rs.small _ (List.mem_filter.1 L).1).1,show 1<=x.kl.length from Nat.le_trans (by decide) h1.length_le⟩
 obtain⟨j,K⟩:∃ m,es.length=m:=⟨_,rfl⟩
 obtain⟨M,Z⟩:∃ M,0 < j->H=some ⟨M,0,none⟩:=by
  rcases P.ex with⟨_,e1⟩ | ⟨b,c,e1,_⟩
  ·exact⟨0,fun h=>by rw[e1] at K;simp at K;omega⟩
  ·exact⟨b,fun _=>by cases e1;rfl⟩
 rw[K];refine t 6 (.slice H j I) (ae (aa (ab (ab (ag (t 7 (iI 0) (ae (aa (bj ?_)))))))));obtain⟨J,hVA⟩:∃ V,v3=V:=⟨_,rfl⟩
 rw[hVA] at P S C ⊢;refine ic (fun s=>j - s.1) (fun(s:Nat × Option Addr × Nat × Nat)=>[(1,iU h),(5,.slice s.2.1 s.2.2.1 s.2.2.2),(6,.slice H j I),(7,iI (s.1:Int))]) (fun s w'=>s.1<=j/\Below J.heap.size J w'/\EA w' J.heap.size (.slice s.2.1 s.2.2.1 s.2.2.2) (LD es h s.1)) ((0,none,0,0):Nat × Option Addr × Nat × Nat) ⟨Nat.zero_le _,Below.refl _ _,EA.nil _ _⟩ (by kernel_rfl) ?_
 rintro⟨i,a,k,d⟩ v4 ⟨hi,f,U⟩;dsimp only at hi U;have zV:=f.size;have l:=Below.refl v4.heap.size v4;refine ab (ab (ag (t 13 (iI (i:Int)) (t 14 (.slice H j I) (t 15 (iI ((j:Nat):Int)) ?_)))));by_cases ci:(i:Int) < ((j:Nat):Int)
 ·have z:i < j:=by omega
  obtain⟨e,u⟩:∃ x,es[i]?=some x:=⟨es[i],List.getElem?_eq_getElem (by omega)⟩
  have ac:J.cell? ⟨M,0+i * 2,none⟩=some e.kv/\J.cell? ⟨M,0+i * 2+1,none⟩=some e.vv:=by
   have ha:=Z (by omega);subst ha;rw[Nat.zero_add];exact⟨(P.cells u).1,(P.cells u).2.1⟩
  refine tq 16 (.bool (decide ((i:Int) < ((j:Nat):Int)))) (bT) (congrArg Value.bool (decide_eq_true ci)) (ae (aa (aP (aK (aa (ab (bj (ab (ag (t 20 (.slice H j I) (t 21 (iI (i:Int)) (tr 22 (pq M (0+i * 2)) (ik 2 M 0 j I i z Z) (tr 23 (.agg #[e.kv,e.vv]) (wA (gB f ac.1) (gB f ac.2)) (tc 24 110 #[.agg #[e.kv,e.vv]] (Bq (r:=14) Cp (by decide) (by decide) rfl (ByU.of (OB.keep (P.bX _ (List.mem_of_getElem? u)).k f)) (N _ (List.mem_of_getElem? u)).2.1 (N _ (List.mem_of_getElem? u)).2.2 (N _ (List.mem_of_getElem? u)).1 (ByU.of (OB.keep (P.bX _ (List.mem_of_getElem? u)).v f))) ?_))))))))))))));rintro _ v5 ⟨rfl,B⟩;refine⟨_,rfl,?_⟩;replace f:=ai f B;replace l:=ai l B;refine t 19 (.tuple #[.agg #[iI (14:Nat),iU (Ky.rdA 14 e.kl),iU (Ky.rdB e.kl)],.agg #[iU (Ky.rdB e.kl),iI (wrap64 (bE e.vl))]]) (t 25 (.agg #[iI (14:Nat),iU (Ky.rdA 14 e.kl),iU (Ky.rdB e.kl)]) (t 26 (.agg #[iU (Ky.rdB e.kl),iI (wrap64 (bE e.vl))]) (ta 8 [iI 0,iU 0,iU 0] 90 (pg) ?_)));intro v6 g7 g W B;have zBVg7:=Nat.le_trans f.size W;have zB0g7:=Nat.le_trans l.size W;replace f:=ai f B;replace l:=ai l B;have R:=g.lt;refine ta 9 [iU 0,iI 0] 61 (pg) ?_
  intro v8 g9 o ad B;have zBVg9:=Nat.le_trans f.size ad;have zB0g9:=Nat.le_trans l.size ad;replace f:=ai f B;replace l:=ai l B;replace g:=g.keep B;refine ts g 0 (.agg #[iI (14:Nat),iU (Ky.rdA 14 e.kl),iU (Ky.rdB e.kl)]) [iI (14:Nat),iU (Ky.rdA 14 e.kl),iU (Ky.rdB e.kl)] [iI (14:Nat),iU (Ky.rdA 14 e.kl),iU (Ky.rdB e.kl)] ?_
  intro v10 Y C;replace f:=aS f C (by omega);replace l:=aS l C (by omega);replace o:=o.chg C (show g9≠g7 by omega);have g:=Y;refine ts o 0 (.agg #[iU (Ky.rdB e.kl),iI (wrap64 (bE e.vl))]) [iU (Ky.rdB e.kl),iI (wrap64 (bE e.vl))] [iU (Ky.rdB e.kl),iI (wrap64 (bE e.vl))] ?_
  intro v11 Y C;replace f:=aS f C (by omega);replace l:=aS l C (by omega);replace g:=g.chg C (show g7≠g9 by omega);have o:=Y;refine ae (aa (aG [(1,iU h),(5,.slice a k d),(6,.slice H j I),(7,iI (i:Int)),(8,pg g7),(9,pg g9),(13,iI (i:Int)),(14,.slice H j I),(15,iI ((j:Nat):Int)),(16,bT),(19,.tuple #[.agg #[iI (14:Nat),iU (Ky.rdA 14 e.kl),iU (Ky.rdB e.kl)],.agg #[iU (Ky.rdB e.kl),iI (wrap64 (bE e.vl))]]),(20,.slice H j I),(21,iI (i:Int)),(22,pq M (0+i * 2)),(23,.agg #[e.kv,e.vv]),(24,.tuple #[.agg #[iI (14:Nat),iU (Ky.rdA 14 e.kl),iU (Ky.rdB e.kl)],.agg #[iU (Ky.rdB e.kl),iI (wrap64 (bE e.vl))]]),(25,.agg #[iI (14:Nat),iU (Ky.rdA 14 e.kl),iU (Ky.rdB e.kl)]),(26,.agg #[iU (Ky.rdB e.kl),iI (wrap64 (bE e.vl))])] (ab (ag (t 27 (pq g7 1) (tl 28 (iU (Ky.rdA 14 e.kl)) g 1 (t 29 (iU h) ?_)))))));by_cases D:(Ky.rdA 14 e.kl:Int)<=h
  ·refine tq 30 (.bool (decide ((Ky.rdA 14 e.kl:Int)<=h))) (bT) (congrArg Value.bool (decide_eq_true D)) (ae (aa (aP (ag (t 31 (.slice a k d) (tlr 32 [iU (Ky.rdB e.kl),iI (wrap64 (bE e.vl))] o 0 ?_))))));have R:=g.lt;have lXg9:=o.lt;refine ta 33 [iU (Ky.rdB e.kl),iI (wrap64 (bE e.vl))] 61 (sg 1) ?_
   intro v13 g14 A G B;have zBVg14:=Nat.le_trans f.size G;have zB0g14:=Nat.le_trans l.size G;replace f:=ai f B;replace l:=ai l B;replace g:=g.keep B;replace o:=o.keep B;have zC:=l.size;have hll:=LD_len es h i;obtain⟨v5,w5,T,U5,C5⟩:=y8 (p:=dr e) (a:=⟨g14,0,none⟩) 74 (U.keep l) (by omega) (by omega) (A.cell (i:=0) rfl) (A.cell (i:=1) rfl);obtain⟨a5,c5,rfl⟩:=U5.shape;obtain⟨k5,hk5⟩:∃ k,((LD es h i) ++ [dr e]).length=k:=⟨_,rfl⟩
   rw[hk5] at U5 T;refine tw 34 (.slice a5 k5 c5) _ (wF T) ?_
   have BV5:Below J.heap.size J w5:=f.trans (C5.below (fun b h=>by omega) f.size);clear f l g o A;refine t 5 (.slice a5 k5 c5) (ae (dk (aa (ag (t 17 (iI (i:Int)) (tq 18 (iI (IntKind.i64.wrap ((i:Int)+1))) (iI ((i:Int)+1)) (wi (by omega)) (t 7 (iI ((i:Int)+1)) (ae ?_))))))));rw[<- LD_yes u D] at U5;exact dK ((i+1,a5,k5,c5):Nat × Option Addr × Nat × Nat) (by show j - (i+1) < j - i;omega) ⟨z,BV5,U5⟩ (by kernel_rfl)
  ·exact tq 30 (.bool (decide ((Ky.rdA 14 e.kl:Int)<=h))) (bF) (congrArg Value.bool (decide_eq_false D)) (ae (aa (aW (aK (dk (aa (ag (t 17 (iI (i:Int)) (tq 18 (iI (IntKind.i64.wrap ((i:Int)+1))) (iI ((i:Int)+1)) (wi (by omega)) (t 7 (iI ((i:Int)+1)) (ae (dK ((i+1,a,k,d):Nat × Option Addr × Nat × Nat) (by show j - (i+1) < j - i;omega) ⟨z,f,by show EA _ _ _ (LD es h (i+1));rw[LD_no u D];exact U.keep l⟩ (by kernel_rfl)))))))))))))
 ·refine tq 16 (.bool (decide ((i:Int) < ((j:Nat):Int)))) (bF) (congrArg Value.bool (decide_eq_false ci)) (ae (aa (aW (dM (dC (dC (gy (aa (ab (ag (t 35 (.slice a k d) (t 4 (.slice a k d) (ae (aa (aF (aE (.slice a k d) (rs1 4 (by kernel_rfl) (by kernel_rfl)) ?_))))))))))))))))
  have hN:LD es h i=upto E (p14 h):=by
   unfold LD upto;rw[List.take_of_length_le (by omega),<- Kys.upto Q hh,<- show es.map En.kl2=E.filter (fun y=>decide ([113] <+: y.1)) from he,List.filter_map,List.map_map];rfl
  rw[hN] at U;exact⟨_,rfl,EA.low (EA.keep U l) (by have:=C.size;have:=O.size;omega),Y,n1,S.keep f,hn1,fun b hb=>(hY b hb).imp id (fun h=>Nat.le_trans O.size h),((Chg.of (F:=fun x=>x=q) O).trans C (fun _ _ h=>h)).trans (Chg.of (F:=fun x=>x=q) f) (fun _ _ h=>h)⟩
theorem rfrom(h0:Rx B w X q E n)(hh:Uq h)(hKy:Kys E)(hn:n<=3000000000000000000)(hm:E.length<=100000):Calls Tryz.prog 59 #[pg q,.int .u64 h] w (Ff B w X q E n (under E (p15 h))):=by
 have hRk:=hKy.k15 hh;have O:=Below.refl w.heap.size w;refine aC (n:=39) Tryz.func59 rfl ?_
 refine ab (ag (t 4 (.slice none 0 0) (ae (aa (ab (ag (t 5 (.slice none 0 0) (ae (aa (ab (ag (t 13 (iU h) (tc 14 111 #[iI 15,iU h] (zH (k:=15) hh.1 hh.2 (by decide)) ?_)))))))))))));rintro _ v1 ⟨u,rfl,U1,B⟩;refine⟨_,rfl,?_⟩;replace O:=ai O B;refine t 12 (.tuple #[u,iI 0]) (t 15 (u) (t 16 (iI 0) (t 6 (u) (t 7 (iI 0) (ae (aa (ab (ag (t 17 (pg q) (t 18 (u) (tc 19 109 #[pg q,u] (all9 (h0.keep O) U1 (Nat.le_trans (Ky.jV _ _) (by decide)) hn (by omega)) ?_)))))))))));rintro _ v2 ⟨vl,es,rfl,P,he,Y,n1,S,hn1,hY,C⟩;refine⟨_,rfl,?_⟩;obtain⟨D,G,rfl⟩:=P.shape
 have hml:es.length<=E.length:=by
  have:=congrArg List.length he;rw[List.length_map] at this;rw[this];exact List.length_filter_le _ _
 have N:∀ x∈es,Ky.frm (15:Nat)=Ky.fIn x.kl/\x.kl.length<=1000000000/\0 < x.kl.length:=fun x hx=>by
  have L:x.kl2∈E.filter (fun y=>decide (p15 h <+: y.1)):=by rw[<- show es.map En.kl2=E.filter (fun y=>decide (p15 h <+: y.1)) from he];exact List.mem_map.2 ⟨x,hx,rfl⟩
  have h1:=of_decide_eq_true (List.mem_filter.1 L).2;exact⟨hRk _ (List.mem_filter.1 L).1 h1,(S.rs.small _ (List.mem_filter.1 L).1).1,show 1<=x.kl.length from Nat.le_trans (by rw[qL];simp) h1.length_le⟩
 obtain⟨j,K⟩:∃ m,es.length=m:=⟨_,rfl⟩
 obtain⟨M,Z⟩:∃ M,0 < j->D=some ⟨M,0,none⟩:=by
  rcases P.ex with⟨_,e1⟩ | ⟨b,c,e1,_⟩
  ·exact⟨0,fun h=>by rw[e1] at K;simp at K;omega⟩
  ·exact⟨b,fun _=>by cases e1;rfl⟩
 rw[K];refine t 8 (.slice D j G) (ae (aa (aG [(4,.slice none 0 0),(5,.slice none 0 0),(8,.slice D j G)] (ab (ab (ag (t 9 (iI 0) (ae (aa (bj ?_))))))))));obtain⟨J,hVA⟩:∃ V,v2=V:=⟨_,rfl⟩
 rw[hVA] at P S C ⊢;refine ic (fun s=>j - s.1) (fun(s:Nat × Option Addr × Nat × Nat)=>[(5,.slice s.2.1 s.2.2.1 s.2.2.2),(8,.slice D j G),(9,iI (s.1:Int))]) (fun s w'=>s.1<=j/\Below J.heap.size J w'/\EA w' J.heap.size (.slice s.2.1 s.2.2.1 s.2.2.2) (LF es s.1)) ((0,none,0,0):Nat × Option Addr × Nat × Nat) ⟨Nat.zero_le _,Below.refl _ _,EA.nil _ _⟩ (by kernel_rfl) ?_
 rintro⟨i,a,k,d⟩ v3 ⟨hi,f,U⟩;dsimp only at hi U;have zV:=f.size;have o:=Below.refl v3.heap.size v3;refine ab (ab (ag (t 20 (iI (i:Int)) (t 21 (.slice D j G) (t 22 (iI ((j:Nat):Int)) ?_)))));by_cases ci:(i:Int) < ((j:Nat):Int)
 ·have I:i < j:=by omega
  obtain⟨e,z⟩:∃ x,es[i]?=some x:=⟨es[i],List.getElem?_eq_getElem (by omega)⟩
  have ac:J.cell? ⟨M,0+i * 2,none⟩=some e.kv/\J.cell? ⟨M,0+i * 2+1,none⟩=some e.vv:=by
   have ha:=Z (by omega);subst ha;rw[Nat.zero_add];exact⟨(P.cells z).1,(P.cells z).2.1⟩
  refine tq 23 (.bool (decide ((i:Int) < ((j:Nat):Int)))) (bT) (congrArg Value.bool (decide_eq_true ci)) (ae (aa (aP (aK (aa (ab (bj (ab (ag (t 27 (.slice D j G) (t 28 (iI (i:Int)) (tr 29 (pq M (0+i * 2)) (ik 2 M 0 j G i I Z) (tr 30 (.agg #[e.kv,e.vv]) (wA (gB f ac.1) (gB f ac.2)) (tc 31 110 #[.agg #[e.kv,e.vv]] (Bq (r:=15) Du (by decide) (by decide) rfl (ByU.of (OB.keep (P.bX _ (List.mem_of_getElem? z)).k f)) (N _ (List.mem_of_getElem? z)).2.1 (N _ (List.mem_of_getElem? z)).2.2 (N _ (List.mem_of_getElem? z)).1 (ByU.of (OB.keep (P.bX _ (List.mem_of_getElem? z)).v f))) ?_))))))))))))));rintro _ v4 ⟨rfl,B⟩;refine⟨_,rfl,?_⟩;replace f:=ai f B;replace o:=ai o B;refine t 26 (.tuple #[.agg #[iI (15:Nat),iU (Ky.rdA 15 e.kl),iU (Ky.rdB e.kl)],.agg #[iU (Ky.rdB e.kl),iI (wrap64 (bE e.vl))]]) (t 32 (.agg #[iI (15:Nat),iU (Ky.rdA 15 e.kl),iU (Ky.rdB e.kl)]) (t 33 (.agg #[iU (Ky.rdB e.kl),iI (wrap64 (bE e.vl))]) (ta 10 [iI 0,iU 0,iU 0] 90 (pg) ?_)));intro v5 g6 g W B;have zBVg6:=Nat.le_trans f.size W;have zB0g6:=Nat.le_trans o.size W;replace f:=ai f B;replace o:=ai o B;have Q:=g.lt;refine ta 11 [iU 0,iI 0] 61 (pg) ?_
  intro v7 g8 l T B;have zBVg8:=Nat.le_trans f.size T;have zB0g8:=Nat.le_trans o.size T;replace f:=ai f B;replace o:=ai o B;replace g:=g.keep B;refine ts g 0 (.agg #[iI (15:Nat),iU (Ky.rdA 15 e.kl),iU (Ky.rdB e.kl)]) [iI (15:Nat),iU (Ky.rdA 15 e.kl),iU (Ky.rdB e.kl)] [iI (15:Nat),iU (Ky.rdA 15 e.kl),iU (Ky.rdB e.kl)] ?_
  intro v9 Y C;replace f:=aS f C (by omega);replace o:=aS o C (by omega);replace l:=l.chg C (show g8≠g6 by omega);have g:=Y;refine ts l 0 (.agg #[iU (Ky.rdB e.kl),iI (wrap64 (bE e.vl))]) [iU (Ky.rdB e.kl),iI (wrap64 (bE e.vl))] [iU (Ky.rdB e.kl),iI (wrap64 (bE e.vl))] ?_
  intro v10 Y C;replace f:=aS f C (by omega);replace o:=aS o C (by omega);replace g:=g.chg C (show g6≠g8 by omega);have l:=Y;refine ae (aa (aG [(5,.slice a k d),(8,.slice D j G),(9,iI (i:Int)),(10,pg g6),(11,pg g8),(20,iI (i:Int)),(21,.slice D j G),(22,iI ((j:Nat):Int)),(23,bT),(26,.tuple #[.agg #[iI (15:Nat),iU (Ky.rdA 15 e.kl),iU (Ky.rdB e.kl)],.agg #[iU (Ky.rdB e.kl),iI (wrap64 (bE e.vl))]]),(27,.slice D j G),(28,iI (i:Int)),(29,pq M (0+i * 2)),(30,.agg #[e.kv,e.vv]),(31,.tuple #[.agg #[iI (15:Nat),iU (Ky.rdA 15 e.kl),iU (Ky.rdB e.kl)],.agg #[iU (Ky.rdB e.kl),iI (wrap64 (bE e.vl))]]),(32,.agg #[iI (15:Nat),iU (Ky.rdA 15 e.kl),iU (Ky.rdB e.kl)]),(33,.agg #[iU (Ky.rdB e.kl),iI (wrap64 (bE e.vl))])] (ag (t 34 (.slice a k d) (tlr 35 [iU (Ky.rdB e.kl),iI (wrap64 (bE e.vl))] l 0 ?_)))));have Q:=g.lt;have lXg8:=l.lt;refine ta 36 [iU (Ky.rdB e.kl),iI (wrap64 (bE e.vl))] 61 (sg 1) ?_
  intro v11 g12 A H B;have af:=Nat.le_trans f.size H;have ad:=Nat.le_trans o.size H;replace f:=ai f B;replace o:=ai o B;replace g:=g.keep B;replace l:=l.keep B;have zC:=o.size;have hll:=LF_len es i;obtain⟨v5,w5,R,U5,C5⟩:=y8 (p:=dr e) (a:=⟨g12,0,none⟩) 74 (U.keep o) (by omega) (by omega) (A.cell (i:=0) rfl) (A.cell (i:=1) rfl);obtain⟨a5,c5,rfl⟩:=U5.shape;obtain⟨k5,hk5⟩:∃ k,((LF es i) ++ [dr e]).length=k:=⟨_,rfl⟩
  rw[hk5] at U5 R;refine tw 37 (.slice a5 k5 c5) _ (wF R) ?_
  have BV5:Below J.heap.size J w5:=f.trans (C5.below (fun b h=>by omega) f.size);clear f o g l A;refine t 5 (.slice a5 k5 c5) (ae (dk (aa (ag (t 24 (iI (i:Int)) (tq 25 (iI (IntKind.i64.wrap ((i:Int)+1))) (iI ((i:Int)+1)) (wi (by omega)) (t 9 (iI ((i:Int)+1)) (ae ?_))))))));rw[<- LF_yes z] at U5;exact dK ((i+1,a5,k5,c5):Nat × Option Addr × Nat × Nat) (by show j - (i+1) < j - i;omega) ⟨I,BV5,U5⟩ (by kernel_rfl)
 ·refine tq 23 (.bool (decide ((i:Int) < ((j:Nat):Int)))) (bF) (congrArg Value.bool (decide_eq_false ci)) (ae (aa (aW (dM (dC (dC (gy (aa (ab (ag (t 38 (.slice a k d) (t 4 (.slice a k d) (ae (aa (aF (aE (.slice a k d) (rs1 4 (by kernel_rfl) (by kernel_rfl)) ?_))))))))))))))))
  have hN:LF es i=under E (p15 h):=by
   unfold LF under;rw[List.take_of_length_le (by omega),<- show es.map En.kl2=E.filter (fun y=>decide (p15 h <+: y.1)) from he,List.map_map];rfl
  rw[hN] at U;exact⟨_,rfl,EA.low (EA.keep U o) (by have:=C.size;have:=O.size;omega),Y,n1,S.keep f,hn1,fun b hb=>(hY b hb).imp id (fun h=>Nat.le_trans O.size h),((Chg.of (F:=fun x=>x=q) O).trans C (fun _ _ h=>h)).trans (Chg.of (F:=fun x=>x=q) f) (fun _ _ h=>h)⟩
structure ni(B:Nat)(w:World)(K:Nat->Prop)(g:Nat)(E:ay)(W:List ay)(n N:Nat)(l:List (Int × Int))(e:Ending)(w':World):Prop where
 ex:∃ v n',e=.returned v/\EA w' w.heap.size v l/\Sx B w' K g E W n' N/\n<=n'/\n'<=n+1+N/\l.length<=N/\Chg (·=g) w w'
theorem se(h:Sx B w K g E W n N)(b:Uq v)(c:Kys E)(f:N<=100000000)(hx:n+N<=2000000000000000000):Calls Tryz.prog 29 #[pg g,.int .u64 v] w (ni B w K g E W n N (upto E (p14 v))):=by
 refine(due_sa h.sa b (Nat.le_trans (Ky.jV _ _) (by decide)) (c.k14 b) f hx).mono ?_
 rintro e i ⟨u,j,rfl,d,rfl,S,C⟩
 have a:(upto E (p14 v)).length<=N:=by
  refine Nat.le_trans ?_ h.sa.size;unfold upto;rw[List.length_map];exact List.length_filter_le _ _
 exact⟨u,_,rfl,d,⟨S,Nat.le_trans h.lo C.size,h.kb⟩,by omega,by have:(upto E (Ky.mkb (Ky.frm 14) (Ky.tn 14 v))).length<=N:=a;omega,a,C⟩
theorem sX(h:Sx B w K g E W n N)(b:Uq v)(c:Kys E)(f:N<=100000000)(hx:n+N<=2000000000000000000):Calls Tryz.prog 30 #[pg g,.int .u64 v] w (ni B w K g E W n N (under E (p15 v))):=by
 refine(Dg h.sa b (Nat.le_trans (Ky.jV _ _) (by decide)) (c.k15 b) f hx).mono ?_
 rintro e i ⟨u,j,rfl,d,rfl,S,C⟩
 have a:(under E (p15 v)).length<=N:=by
  refine Nat.le_trans ?_ h.sa.size;unfold under;rw[List.length_map];exact List.length_filter_le _ _
 exact⟨u,_,rfl,d,⟨S,Nat.le_trans h.lo C.size,h.kb⟩,by omega,by have:(under E (Ky.mkb (Ky.frm 15) (Ky.tn 15 v))).length<=N:=a;omega,a,C⟩
end
end Qu
end
section
namespace Qu
open Go.RowKit Go.Lib Pg Lim Gl Kv Bk Pw
attribute [local go_sem] Oper.semAt_some
set_option linter.unusedVariables false
set_option linter.unusedSimpArgs false
section
variable {x x0 x1 x2 x3 x4 x5:Int}{B g n N P b:Nat}{w:World}{K:Nat->Prop}{E E':ay}{W:List ay}{r r':Value}{args:Array Value}{L:List Int}{ρ:Operand->Value}{o:Oper}
def bgE(x:Int):ay:=put [] (Ky.mk 2 0 0) (pv 3 x)
def kE0:ay:=bgE 7
def kE1:ay:=eS kE0 12 (uv 20 16 0 5 0 9) 20 16 5
def kE2:ay:=eS kE1 13 (mv 20 16 17 0 4 0 0) 20 16 4
def kE3:ay:=gV kE2 7 4
def kE4:ay:=nA kE3 8 3
def kE5:ay:=dI kE4 8 13
theorem kf1:aJ (chn kE0)=7:=by decide +kernel
theorem kf2:aJ (chn kE1)=8:=by decide +kernel
theorem kf3:dq kE2 20 16=2:=by decide +kernel
theorem kf4:(Kv.look kE2 (Ky.mk 12 7 0)).isSome=true:=by decide +kernel
theorem kf5:(Kv.look kE3 (Ky.mk 12 8 0)).isSome=false/\gV kE3 8 4=kE3:=by decide +kernel
theorem kf6:(Kv.look kE3 (Ky.mk 13 8 0)).isSome=true:=by decide +kernel
theorem kf7:(Kv.look kE4 (Ky.mk 13 7 0)).isSome=false/\nA kE4 7 0=kE4:=by decide +kernel
theorem kf8:((Kv.look kE4 (Ky.mk 12 7 0)).isSome=true/\uX (got kE4 (Ky.mk 12 7 0)) 0=20/\uX (got kE4 (Ky.mk 12 7 0)) 1=16)/\(uX (got kE4 (Ky.mk 12 7 0)) 2=0/\uX (got kE4 (Ky.mk 12 7 0)) 3=5)/\(uX (got kE4 (Ky.mk 12 7 0)) 4=0/\uX (got kE4 (Ky.mk 12 7 0)) 5=4):=by decide +kernel
theorem kf9:((Kv.look kE4 (Ky.mk 13 8 0)).isSome=true/\mX (got kE4 (Ky.mk 13 8 0)) 0=20/\mX (got kE4 (Ky.mk 13 8 0)) 1=16)/\(mX (got kE4 (Ky.mk 13 8 0)) 2=17/\mX (got kE4 (Ky.mk 13 8 0)) 3=0)/\(mX (got kE4 (Ky.mk 13 8 0)) 4=4/\mX (got kE4 (Ky.mk 13 8 0)) 5=0)/\mX (got kE4 (Ky.mk 13 8 0)) 6=3:=by decide +kernel
theorem kf10:upto kE4 (p14 5)=[(8,13),(7,12)]:=by decide +kernel
theorem kf11:upto kE4 (p14 4)=[(8,13)]:=by decide +kernel
theorem kf12:under kE4 (p15 16)=[(7,12),(8,13)]:=by decide +kernel
theorem kf13:cO kE4 8 12=false/\dI kE4 8 12=kE4:=by decide +kernel
theorem kf14:cO kE4 8 13=true/\dq kE5 20 16=1:=by decide +kernel
theorem EW(hx:Uq x):Qs (bgE x) x []:=by
 have L:∀ {k a b:Int},Ok k a b->Kv.look (bgE x) (Ky.mk k a b)=if 2=k/\0=a/\0=b then some (pv 3 x) else none:=fun j=>by
  unfold bgE;rw[lkp List.Pairwise.nil ok2 j];rfl
 have c:chn (bgE x)=pv 3 x:=by
  unfold chn got;rw[L ok2,if_pos (by simp)];rfl
 obtain⟨p1,f⟩:=rA (x:=3) (y:=x) (by decide) hx;refine⟨cI.put List.Pairwise.nil _ _,eE (fun _ h=>by cases h) ok2,by rw[c];exact f,by rw[c,p1];decide,hx.1,List.Pairwise.nil,(fun _ h=>by cases h),(fun _ h=>by cases h),?_,?_,?_,?_⟩
 ·intro k i g hi _;rw[L (okr g hi),if_neg (by omega)]
 ·intro d i e hi v;rw[L (sV e hi),if_neg (by omega)];exact⟨(fun h=>by cases h),(fun ⟨_,h,_⟩=>by cases h)⟩
 ·intro d i e hi v;rw[L (uP e hi),if_neg (by omega)];exact⟨(fun h=>by cases h),(fun ⟨_,h,_⟩=>by cases h)⟩
 ·intro a b l hb;rw[L (l4 l hb),if_neg (by omega)];rfl
theorem xt:Kys kE4:=by
 have b:=EW (x:=7) (by decide)
 have c:Qs kE1 (7+1) [⟨7,12,20,16,5⟩]:=b.begin (by decide) (by decide) (e:=⟨7,12,20,16,5⟩) rfl (.inl rfl) (by decide) (by decide) (by decide) (r:=uv 20 16 0 5 0 9) ⟨(fun _=>by decide +kernel),(fun h=>by cases h)⟩
 have a:Qs kE2 (7+1+1) [⟨7,12,20,16,5⟩,⟨8,13,20,16,4⟩]:=c.begin (by decide) (by decide) (e:=⟨8,13,20,16,4⟩) rfl (.inr rfl) (by decide) (by decide) (by decide) (r:=mv 20 16 17 0 4 0 0) ⟨(fun h=>by cases h),(fun _=>by decide +kernel)⟩
 have f:Oct (got kE2 (Ky.mk 12 7 0)):=by unfold Oct;decide +kernel
 have g:Qs kE3 (7+1+1) _:=a.less (id:=7) (y:=4) (by decide) (by decide) (by decide) f
 have d:Oct (got kE3 (Ky.mk 13 8 0)):=by unfold Oct;decide +kernel
 exact(g.few (id:=8) (y:=3) (by decide) (by decide) (by decide) d).keys
theorem SxE.cast(h:Calls Tryz.prog P args w (SxE B w K g E W n N r))(hE:E=E')(hr:r=r'):Calls Tryz.prog P args w (SxE B w K g E' W n N r'):=by subst hE hr;exact h
theorem SxF.cast(h:Calls Tryz.prog P args w (SxF B w K g E W n N r))(hE:E=E')(hr:r=r'):Calls Tryz.prog P args w (SxF B w K g E' W n N r'):=by subst hE hr;exact h
theorem ni.cast{l l':List (Int × Int)}(h:Calls Tryz.prog P args w (ni B w K g E W n N l))(hl:l=l'):Calls Tryz.prog P args w (ni B w K g E W n N l'):=by subst hl;exact h
structure FndV(B:Nat)(w:World)(K:Nat->Prop)(g:Nat)(E:ay)(W:List ay)(n N:Nat)(x0 x1 x2 x3 x4 x5 x6:Int)(b:Bool)(e:Ending)(w':World):Prop where
 ex:∃ a6 n6 c6,e=.returned (.tuple #[.agg #[.int .u64 x0,.int .u64 x1,.int .u64 x2,.int .u64 x3,.int .u64 x4,.int .u64 x5,.slice a6 n6 c6],.bool b])/\∃ z6 K',Sx B w' K' g E W n N/\(∀ b,K' b->K b\/w.heap.size<=b)/\Chg K w w'/\Nq w' K' z6 a6 n6 c6 x6/\n6<=510/\(n6=0\/w.heap.size<=z6)
theorem wW.val{c:Int}{b a:Bool}(h:Calls Tryz.prog P args w (wW B w K g E W n N L b))(f:mX L 0=x0)(l:mX L 1=x1)(d:mX L 2=x2)(i:mX L 3=x3)(k:mX L 4=x4)(m:mX L 5=x5)(j:mX L 6=c)(hb:b=a):Calls Tryz.prog P args w (FndV B w K g E W n N x0 x1 x2 x3 x4 x5 c a):=by
 subst f l d i k m j hb;exact h.mono fun e o h=>⟨h.ex⟩
theorem tK(w:World)(K:Nat->Prop):Nk w K 0 none 0 0 0:=⟨.inl rfl,.inl rfl,fun w' _=>(jW w').a⟩
theorem AH(c:w.cell? ⟨b,0,none⟩=some (.int .u64 3)):gF w (some ⟨b,0,none⟩) 1 1 3:=⟨b,0,[3],rfl,Nat.le_refl _,by refine⟨fun y hy => ?_,by rfl,by decide⟩; simp at hy; subst hy; decide,⟨.inr rfl,fun i hi=>by
  obtain rfl:i=0:=by simp at hi;omega
  exact c⟩⟩
theorem nk_3(X:Blk w b [.int .u64 3] 22)(hK:¬ K b):Nk w K b (some ⟨b,0,none⟩) 1 1 3:=⟨.inr X.lt,.inr hK,fun w' h=>(AH (by rw[World.cell?_of_block (w:=w) (h (by decide))];exact X.cell (i:=0) rfl)).a⟩
theorem CQ(b:∃ u v,o.op=.binOp .neq 42 u v 42/\ρ u=.agg #[.int .u64 x0,.int .u64 x1,.int .u64 x2,.int .u64 x3,.int .u64 x4,.int .u64 x5]/\ρ v=.agg #[.int .u64 x0,.int .u64 x1,.int .u64 x2,.int .u64 x3,.int .u64 x4,.int .u64 x5]:=by exact⟨_,_,rfl,by kernel_rfl,by kernel_rfl⟩):(execOp ρ o).run Tryz.prog w=.ok (.value (.bool false)) w:=by
 obtain⟨u,v,h,e1,e2⟩:=b;simp only[execOp,h,e1,e2];go_simp
theorem Er(b:∃ u v,o.op=.binOp .eql 42 u v 42/\ρ u=.agg #[.int .u64 x0,.int .u64 x1,.int .u64 x2,.int .u64 x3,.int .u64 x4,.int .u64 x5]/\ρ v=.agg #[.int .u64 x0,.int .u64 x1,.int .u64 x2,.int .u64 x3,.int .u64 x4,.int .u64 x5]:=by exact⟨_,_,rfl,by kernel_rfl,by kernel_rfl⟩):(execOp ρ o).run Tryz.prog w=.ok (.value (.bool true)) w:=by
 obtain⟨u,v,h,e1,e2⟩:=b;simp only[execOp,h,e1,e2];go_simp
theorem oP:Calls Tryz.prog 7 #[.int .u64 x] w fun e w'=>∃ Bz g K,e=.returned (pg g)/\Sx Bz w' K g (bgE x) [] 1 2/\w.heap.size<=Bz/\(∀ b,K b->Bz<=b)/\Below w.heap.size w w':=by
 have d:=Below.refl w.heap.size w;refine aC (n:=19) Tryz.func7 rfl ?_
 refine ab (ag (t 2 (.pointer none) (ae (aa (ab (ag ?_))))));obtain⟨Bz,h⟩:∃ Bz,Bz=(w).heap.size:=⟨_,rfl⟩
 have i:w.heap.size<=Bz:=by rw[h];exact d.size
 refine tc 6 6 #[] (Fi Bz h) ?_
 rintro _ v1 ⟨g0,u,rfl,o,q,p⟩;refine⟨_,rfl,?_⟩;replace d:=ai d p;have A:=o.at
 clear o;refine t 3 (pg g0) (ae (aa (ab (ag (t 8 (.agg #[iI 2,iU 0,iU 0]) (tc 9 32 #[.agg #[iI 2,iU 0,iU 0]] (AE (k:=2) (a:=0) (b:=0) (by decide) nV) ?_))))));rintro _ v4 ⟨c,rfl,f,B⟩;refine⟨_,rfl,?_⟩;replace d:=ai d B;replace A:=A.keep B;refine t 7 (.tuple #[c,iI 0]) (t 10 (c) (t 11 (iI 0) (t 4 (c) (t 5 (iI 0) (ae (aa (ab (ag (t 12 (pg g0) (t 13 (c) (t 14 (iU x) (t 15 (.agg #[iU 3,iU x]) (tc 16 34 #[.agg #[iU 3,iU x]] (oN) ?_)))))))))))));rintro _ y ⟨m,rfl,l,B⟩;refine⟨_,rfl,?_⟩;replace d:=ai d B;replace A:=A.keep B;replace f:=aA f B;refine tc 17 33 #[pg g0,c,m] (qm A.sx f nV l (Nat.le_trans (kt _ _) (by decide)) (by omega) (by omega)) ?_
 rintro _ s ⟨rfl,v,S,r,j⟩;refine⟨_,rfl,?_⟩;replace d:=br d j (fun b hb=>Nat.le_trans i (A.sx.kb b hb));replace f:=A.byu f j;replace l:=A.byu l j;replace A:=A.op S r j;clear f;clear l;refine ae (aa (aG [(2,.pointer none),(3,pg g0)] (ab (ag (t 18 (pg g0) (t 2 (pg g0) (ae (aa (aF (aE (pg g0) (rs1 2 (by kernel_rfl) (by kernel_rfl)) ?_))))))))));exact⟨_,_,_,rfl,A.sx,i,fun b hb=>A.sx.kb b hb,d⟩
end
end Qu
end
section
namespace Gl
open Go.RowKit Go.Lib Pg
def E7 (n:Nat) (L L':List Nat):Bool:=(List.range n).all fun i=>ox L i == ox L' i
theorem zI {n:Nat} {L L':List Nat} (h:E7 n L L'=true):arr n L=arr n L':=by
 unfold arr;rw[List.map_congr_left fun i hi=>by have:=List.all_eq_true.1 h i hi;simpa using this]
section
variable {P:Program} {n:Nat} {ds:List Deferred} {ops:Array Oper} {Q:Exit->Act->World->Prop} {S:World->Prop} {Z:Nat->Bool} {fuel:Nat} {L:List Nat} {l:Fr} {w:World}
theorem p7 {α:Type} (L':List Nat) (k:Nat) (a:α->Fr) (F:α->World->Prop) (c:(∀ s w',F s w'->GZ P n ds ops Q S Z k L' (a s) w')->GZ P n ds ops Q S Z fuel L l w) (b:∀ s w',F s w'->GZ P n ds ops Q S Z k L' (a s) w'):GZ P n ds ops Q S Z fuel L l w:=c b
theorem pk {α:Type} {L':List Nat} {b:α->Fr} {F:α->World->Prop} (J:∀ s w',F s w'->GZ P n ds ops Q S Z fuel L' (b s) w') (s:α) (hF:F s w) (c:(b s).map (fun p=>lk l p.1)=(b s).map (fun p=>some p.2):=by kernel_rfl) (d:E7 ops.size L L'=true:=by kernel_rfl):GZ P n ds ops Q S Z fuel L l w:=⟨fun ok hS a r=>by rw[zI d];exact(J s w hF).out ok hS a (r.sub (ml c))⟩
end
end Gl
end
section
namespace Qu
open Go.RowKit Go.Lib Pg Lim Gl Kv Bk Pw
attribute [local go_sem] Oper.semAt_some
set_option linter.unusedVariables false
set_option linter.unusedSimpArgs false
theorem kU:(.tuple #[.agg (uA (got kE4 (Ky.mk 12 7 0))),.bool (Kv.look kE4 (Ky.mk 12 7 0)).isSome]:Value)=.tuple #[.agg #[.int .u64 20,.int .u64 16,.int .u64 0,.int .u64 5,.int .u64 0,.int .u64 4],.bool true]:=by
 obtain⟨⟨a,b,c⟩,⟨d,e⟩,f,g⟩:=kf8;unfold uA;rw[a,b,c,d,e,f,g]
theorem CN {w:World}:Calls Tryz.prog 4 #[] w fun e w'=>e=.returned (.bool true)/\Below w.heap.size w w':=by
 have g:=Below.refl w.heap.size w;refine aC (n:=119) Tryz.func4 rfl ?_
 refine ab (ag (t 0 (bF) (ae (aa (ab (ag (tc 10 7 #[iU 7] (oP) ?_)))))));rintro _ v1 ⟨Bz,g0,K0,rfl,S0,l,hK0,B0⟩;refine⟨_,rfl,?_⟩;replace g:=ai g B0;clear B0;have A:=S0.at
 clear S0;refine t 1 (pg g0) (ae (aa (ab (ab (ag (t 11 (pg g0) (t 12 (bF) (ae (aa (aW (aK (aa (ab (ag (t 13 (pg g0) (t 14 (.agg #[iU 20,iU 16,iU 0,iU 5,iU 0,iU 9]) (tc 15 11 #[pg g0,.agg #[iU 20,iU 16,iU 0,iU 5,iU 0,iU 9]] (SxE.cast (E':=kE1) (m8 (E:=kE0) A.sx (by decide) (by decide) (by decide) (by omega) (by omega)) rfl (congrArg (Value.int .u64) kf1)) ?_)))))))))))))))));rintro _ v3 ⟨rfl,K2,S,p,j⟩;refine⟨_,rfl,?_⟩;replace g:=br g j (fun b hb=>Nat.le_trans l (A.sx.kb b hb));replace A:=A.op S p j;refine t 2 (iU 7) (ae (aa (ab (ag (t 16 (pg g0) (t 17 (.agg #[iU 20,iU 16,iU 17,iU 0,iU 4,iU 0,.slice none 0 0]) (tc 18 13 #[pg g0,.agg #[iU 20,iU 16,iU 17,iU 0,iU 4,iU 0,.slice none 0 0]] (SxE.cast (E':=kE2) (sk (E:=kE1) A.sx (by decide) (by decide) (by decide) (tK _ _) (by decide) (by omega) (by omega)) rfl (congrArg (Value.int .u64) kf2)) ?_)))))));rintro _ v5 ⟨rfl,K4,S,p,j⟩;refine⟨_,rfl,?_⟩;replace g:=br g j (fun b hb=>Nat.le_trans l (A.sx.kb b hb));replace A:=A.op S p j;refine t 3 (iU 8) (ae (aa (aG [(0,bF),(1,pg g0),(2,iU 7),(3,iU 8)] (ab (ab (ag (t 19 (iU 7) (t 20 (bF) (t 21 (bF) (t 22 (iU 8) (t 23 (bF) (t 24 (bF) (t 25 (bF) (t 26 (pg g0) (tc 27 24 #[pg g0,iU 20,iU 16] (SxE.cast (E:=kE2) (ek A.sx (by decide) (by omega) (by omega)) rfl (congrArg (Value.int .u64) kf3)) ?_)))))))))))))));rintro _ v7 ⟨rfl,K6,S,p,j⟩;refine⟨_,rfl,?_⟩;replace g:=br g j (fun b hb=>Nat.le_trans l (A.sx.kb b hb));replace A:=A.op S p j;refine t 28 (bF) (t 29 (bF) (t 30 (bF) (t 31 (pg g0) (tc 32 15 #[pg g0,iU 7,iU 4] (SxF.cast (E':=kE3) (nF (E:=kE2) A.sx (by decide) (by omega) (by omega)) rfl (congrArg Value.bool kf4)) ?_))));rintro _ v12 ⟨rfl,K8,n9,N10,S,qn9,qN10,p,j⟩;refine⟨_,rfl,?_⟩;replace g:=br g j (fun b hb=>Nat.le_trans l (A.sx.kb b hb));replace A:=A.op S p j;refine t 33 (bF) (t 34 (bF) (t 35 (bF) (t 36 (pg g0) (tc 37 15 #[pg g0,iU 8,iU 4] (SxF.cast (nF (E:=kE3) A.sx (by decide) (by omega) (by omega)) kf5.2 (congrArg Value.bool kf5.1)) ?_))));rintro _ v17 ⟨rfl,K13,n14,N15,S,qn14,qN15,p,j⟩;refine⟨_,rfl,?_⟩;replace g:=br g j (fun b hb=>Nat.le_trans l (A.sx.kb b hb));replace A:=A.op S p j;refine t 38 (bF) (t 39 (bF) (t 40 (pg g0) (ta 41 [iU 3] 22 (sg 1) ?_)));intro v18 g19 F Z B;have yg19:=Nat.le_trans g.size Z;have zg19:=Nat.le_trans A.size Z;have v:=A.new Z;replace g:=ai g B;replace A:=A.keep B;refine t 42 (.agg #[sg 1 g19]) (tc 43 17 #[pg g0,iU 8,.agg #[sg 1 g19]] (SxF.cast (E':=kE4) (j5 (E:=kE3) A.sx (by decide) (nk_3 F v) (by decide) (by omega) (by omega)) rfl (congrArg Value.bool kf6)) ?_);rintro _ v24 ⟨rfl,K20,n21,N22,S,qn21,qN22,p,j⟩;refine⟨_,rfl,?_⟩;replace g:=br g j (fun b hb=>Nat.le_trans l (A.sx.kb b hb));obtain⟨F,v⟩:=au F v p j;replace A:=A.op S p j;refine t 44 (bF) (t 45 (bF) (t 46 (bF) (t 47 (pg g0) (t 48 (.agg #[.slice none 0 0]) (tc 49 17 #[pg g0,iU 7,.agg #[.slice none 0 0]] (SxF.cast (j5 (E:=kE4) A.sx (by decide) (tK _ _) (by decide) (by omega) (by omega)) kf7.2 (congrArg Value.bool kf7.1)) ?_)))));rintro _ v29 ⟨rfl,K25,n26,N27,S,qn26,qN27,p,j⟩;refine⟨_,rfl,?_⟩;replace g:=br g j (fun b hb=>Nat.le_trans l (A.sx.kb b hb));obtain⟨F,v⟩:=au F v p j;replace A:=A.op S p j;refine t 50 (bF) (ae (aa ?_));clear F;refine aG [(0,bF),(1,pg g0),(50,bF)] (aW (aK (aa (ab (ag (t 52 (pg g0) (tc 53 25 #[pg g0,iU 7] (SxE.cast (iE (E:=kE4) A.sx (by decide) (by omega) (by omega)) rfl kU) ?_)))))));rintro _ v31 ⟨rfl,K30,S,p,j⟩;refine⟨_,rfl,?_⟩;replace g:=br g j (fun b hb=>Nat.le_trans l (A.sx.kb b hb));replace A:=A.op S p j;refine t 51 (.tuple #[.agg #[iU 20,iU 16,iU 0,iU 5,iU 0,iU 4],bT]) (t 54 (.agg #[iU 20,iU 16,iU 0,iU 5,iU 0,iU 4]) (t 55 (bT) (ta 4 zz6 42 (pg) ?_)));intro v32 g33 k Q B
 have yg33:=Nat.le_trans g.size Q;have zg33:=Nat.le_trans A.size Q;have J:=A.new Q;replace g:=ai g B;replace A:=A.keep B;refine ts k 0 (.agg #[iU 20,iU 16,iU 0,iU 5,iU 0,iU 4]) [iU 20,iU 16,iU 0,iU 5,iU 0,iU 4] [iU 20,iU 16,iU 0,iU 5,iU 0,iU 4] ?_
 intro v34 Y C;replace g:=aS g C (by omega);replace A:=Bk.At.cell A k C zg33 J (by decide);have k:=Y;refine t 5 (bT) (ae (aa (ab (ag (t 57 (pg g0) ?_)))));have szA:=A.sx.sa.lt A.sx.sa.top;refine tc 58 26 #[pg g0,iU 8] (wW.val (mP (E:=kE4) A.sx (by decide) (by omega) (by omega)) kf9.1.2.1 kf9.1.2.2 kf9.2.1.1 kf9.2.1.2 kf9.2.2.1.1 kf9.2.2.1.2 kf9.2.2.2 kf9.1.1) ?_
 rintro _ v37 ⟨ak,nk,ck,rfl,zk,K36,S,p,j,M,mk,hzk⟩;refine⟨_,rfl,?_⟩;replace g:=br g j (fun b hb=>Nat.le_trans l (A.sx.kb b hb));obtain⟨k,J⟩:=au k J p j;replace A:=A.op S p j;refine t 56 (.tuple #[.agg #[iU 20,iU 16,iU 17,iU 0,iU 4,iU 0,.slice ak nk ck],bT]) (t 59 (.agg #[iU 20,iU 16,iU 17,iU 0,iU 4,iU 0,.slice ak nk ck]) (t 60 (bT) ?_));have lXg33:=k.lt;have lQk:=M.lt;refine ta 6 zz7 48 (pg) ?_
 intro v38 g39 m V B;have yg39:=Nat.le_trans g.size V;have zg39:=Nat.le_trans A.size V;have nXg39:=A.new V;replace g:=ai g B;replace A:=A.keep B;replace k:=k.keep B;replace M:=M.keep B;refine ts m 0 (.agg #[iU 20,iU 16,iU 17,iU 0,iU 4,iU 0,.slice ak nk ck]) [iU 20,iU 16,iU 17,iU 0,iU 4,iU 0,.slice ak nk ck] [iU 20,iU 16,iU 17,iU 0,iU 4,iU 0,.slice ak nk ck] ?_
 intro v40 Y C;replace g:=aS g C (by omega);replace A:=Bk.At.cell A m C zg39 nXg39 (by decide);replace k:=k.chg C (show g33≠g39 by omega);replace M:=M.cell C (show nk=0\/zk≠g39 by omega);have m:=Y;refine t 7 (bT) (ae (aa (aG [(0,bF),(1,pg g0),(4,pg g33),(5,bT),(6,pg g39),(7,bT)] (ab (ab (ag (t 61 (bT) (t 62 (bF) (t 63 (bF) (t 64 (bT) (t 65 (bF) (t 66 (bF) (t 67 (bF) (tlr 68 [iU 20,iU 16,iU 0,iU 5,iU 0,iU 4] k 0 (t 69 (.agg #[iU 20,iU 16,iU 0,iU 5,iU 0,iU 4]) (tr 70 (bF) (CQ (x0:=20) (x1:=16) (x2:=0) (x3:=5) (x4:=0) (x5:=4)) (t 71 (bF) (t 72 (bF) (tlr 73 [iU 20,iU 16,iU 17,iU 0,iU 4,iU 0,.slice ak nk ck] m 0 ?_)))))))))))))))))));have lXg33:=k.lt;have lQk:=M.lt;have lXg39:=m.lt;refine ta 74 [iU 3] 22 (sg 1) ?_
 intro v41 g42 L aj B;have yg42:=Nat.le_trans g.size aj;have zg42:=Nat.le_trans A.size aj;have nXg42:=A.new aj;replace g:=ai g B;replace A:=A.keep B;replace k:=k.keep B;replace M:=M.keep B;replace m:=m.keep B;refine t 75 (.agg #[sg 1 g42]) (t 76 (.agg #[iU 20,iU 16,iU 17,iU 0,iU 4,iU 0,sg 1 g42]) (tc 77 27 #[.agg #[iU 20,iU 16,iU 17,iU 0,iU 4,iU 0,.slice ak nk ck],.agg #[iU 20,iU 16,iU 17,iU 0,iU 4,iU 0,sg 1 g42]] (oI M.o (AH (L.cell (i:=0) rfl)) (Nat.le_trans mk (by decide)) (by decide)) ?_));rintro _ v43 ⟨rfl,B⟩;refine⟨_,rfl,?_⟩;replace g:=ai g B;replace A:=A.keep B;replace k:=k.keep B;replace M:=M.keep B;replace m:=m.keep B;replace L:=L.keep B;clear M;refine t 78 (bF) (t 79 (bF) (ae (aa ?_)));clear k;clear m;clear L;refine aG [(0,bF),(1,pg g0),(79,bF)] (aW (aK (aa (ab (ag (tr 80 (.agg #[iU 7,iI 12]) (iJ) (tr 81 (.agg #[iU 8,iI 13]) (iJ) (ta 8 [iU 0,iI 0] 61 (pg) ?_))))))));intro v44 D a X B;have yg45:=Nat.le_trans g.size X;have zg45:=Nat.le_trans A.size X;have d:=A.new X;replace g:=ai g B;replace A:=A.keep B;have q:=a.lt;refine ta 9 [iU 0,iI 0] 61 (pg) ?_
 intro v46 r c ah B;have yg47:=Nat.le_trans g.size ah;have zg47:=Nat.le_trans A.size ah;have f:=A.new ah;replace g:=ai g B;replace A:=A.keep B;replace a:=a.keep B;refine ts a 0 (.agg #[iU 7,iI 12]) [iU 7,iI 12] [iU 7,iI 12] ?_
 intro v48 Y C;replace g:=aS g C (by omega);replace A:=Bk.At.cell A a C zg45 d (by decide);replace c:=c.chg C (show r≠D by omega);have a:=Y;refine ts c 0 (.agg #[iU 8,iI 13]) [iU 8,iI 13] [iU 8,iI 13] ?_
 intro v49 Y C;replace g:=aS g C (by omega);replace A:=Bk.At.cell A c C zg47 f (by decide);replace a:=a.chg C (show D≠r by omega);have c:=Y;refine ae (aa (ab ?_));replace g:=g.drew;replace A:=A.drew;replace a:=a.drew;replace c:=c.drew;refine bI (fun w'=>Blk w' r [iU 8,iI 13] 61/\Blk w' D [iU 7,iI 12] 61) (fun _=>false) ⟨c,a⟩ ?_
 refine z 0 82 (pg g0) (zlr 2 84 [iU 8,iI 13] (fun _ h=>h.1) 0 (zlr 3 85 [iU 7,iI 12] (fun _ h=>h.2) 0 ?_));refine p7 [0,1,2,3,4,5,6,7,9] 29 (fun(_:Unit)=>[(0,bF),(1,pg g0),(8,pg D),(9,pg r),(88,bT),(89,pg g0),(91,.agg #[iU 8,iI 13])]) (fun _ w'=>Below w.heap.size w w'/\Blk w' D [iU 7,iI 12] 61/\Blk w' r [iU 8,iI 13] 61/\∃ K n N,Sx Bz w' K g0 kE4 [] n N/\n<=1000/\N<=1000/\¬ K D/\¬ K r) ?_ ?_
 ·intro J50;refine eX [1,4] ?_
  have lgn83:=A.sx.sa.lt A.sx.sa.top;refine jA 1 (some 83) 29 #[pg g0,iU 5] (ni.cast (se (E:=kE4) A.sx (by decide) xt (by omega) (by omega)) kf10) ?_ ?_
  ·rintro _ v51 ⟨va,n83,rfl,Ua,S,qn83a,qn83b,qn83c,C⟩;have j:=C.mono (fun b _ (e:b=g0)=>e▸A.sx.sa.top);replace g:=br g j (fun b hb=>Nat.le_trans l (A.sx.kb b hb));replace d:=opX a d (fun _ h=>.inl h) j;replace a:=d.1;replace d:=d.2;replace f:=opX c f (fun _ h=>.inl h) j;replace c:=f.1;replace f:=f.2;replace A:=A.op S (fun _ h=>.inl h) j;refine⟨_,rfl,⟨c,a⟩,?_⟩;have q:=a.lt;have u:=c.lt;refine za 4 86 [iU 8,iI 13,iU 7,iI 12] 61 (sg 2) ?_
   intro v52 g53 U al B;have yg53:=Nat.le_trans g.size al;have zg53:=Nat.le_trans A.size al;have nXg53:=A.new al;replace g:=ai g B;replace A:=A.keep B;replace a:=a.keep B;replace c:=c.keep B;replace Ua:=Ua.keep B;refine⟨⟨c,a⟩,?_⟩;refine zc 5 87 28 #[va,sg 2 g53] (dx Ua (j8 [(8,13),(7,12)] U rfl (Nat.zero_le _) (by decide)) (by decide)) ?_
   rintro _ v54 ⟨rfl,B⟩;replace g:=ai g B;replace A:=A.keep B;replace a:=a.keep B;replace c:=c.keep B;replace Ua:=Ua.keep B;replace U:=U.keep B;clear Ua;refine⟨_,rfl,⟨c,a⟩,?_⟩;exact z 6 88 (bT) (z 7 89 (pg g0) (zlr 9 91 [iU 8,iI 13] (fun _ h=>h.1) 0 (pk J50 () ⟨g,a,c,_,_,_,A.sx,by omega,by omega,d,f⟩)))
  have q:=a.lt;have u:=c.lt;refine zaa 4 86 [iU 8,iI 13,iU 7,iI 12] 61 (sg 2) ?_ ?_
  ·intro v55 g56 I af B;have yg56:=Nat.le_trans g.size af;have zg56:=Nat.le_trans A.size af;have s:=A.new af;replace g:=ai g B;replace A:=A.keep B;replace a:=a.keep B;replace c:=c.keep B;refine⟨⟨c,a⟩,?_⟩;have lgn83:=A.sx.sa.lt A.sx.sa.top;refine zc 1 83 29 #[pg g0,iU 5] (ni.cast (se (E:=kE4) A.sx (by decide) xt (by omega) (by omega)) kf10) ?_
   rintro _ v57 ⟨va,n83,rfl,Ua,S,qn83a,qn83b,qn83c,C⟩;have j:=C.mono (fun b _ (e:b=g0)=>e▸A.sx.sa.top);replace g:=br g j (fun b hb=>Nat.le_trans l (A.sx.kb b hb));replace d:=opX a d (fun _ h=>.inl h) j;replace a:=d.1;replace d:=d.2;replace f:=opX c f (fun _ h=>.inl h) j;replace c:=f.1;replace f:=f.2;replace s:=opX I s (fun _ h=>.inl h) j;replace I:=s.1;replace s:=s.2;replace A:=A.op S (fun _ h=>.inl h) j;refine⟨_,rfl,⟨c,a⟩,?_⟩;refine zc 5 87 28 #[va,sg 2 g56] (dx Ua (j8 [(8,13),(7,12)] I rfl (Nat.zero_le _) (by decide)) (by decide)) ?_
   rintro _ v58 ⟨rfl,B⟩;replace g:=ai g B;replace A:=A.keep B;replace a:=a.keep B;replace c:=c.keep B;replace I:=I.keep B;replace Ua:=Ua.keep B;clear Ua;refine⟨_,rfl,⟨c,a⟩,?_⟩;exact z 6 88 (bT) (z 7 89 (pg g0) (zlr 9 91 [iU 8,iI 13] (fun _ h=>h.1) 0 (pk J50 () ⟨g,a,c,_,_,_,A.sx,by omega,by omega,d,f⟩)))
  exact iS
 clear g;clear A;clear a d;clear c f;rintro _ v59 ⟨g,a,c,Kj60,nj60,Nj60,S,qj60,rj60,d,f⟩;have A:=S.at
 refine p7 [0,1,2,3,4,5,6,7,8,9,10,11,12,13,14,16,17] 21 (fun(_:Unit)=>[(0,bF),(1,pg g0),(9,pg r),(95,bT),(96,pg g0),(98,.agg #[iU 7,iI 12]),(99,.agg #[iU 8,iI 13])]) (fun _ w'=>Below w.heap.size w w'/\Blk w' D [iU 7,iI 12] 61/\Blk w' r [iU 8,iI 13] 61/\∃ K n N,Sx Bz w' K g0 kE4 [] n N/\n<=10000/\N<=1000/\¬ K D/\¬ K r) ?_ ?_
 ·intro J61;refine eX [8,10] ?_
  have lgn90:=A.sx.sa.lt A.sx.sa.top;refine jA 8 (some 90) 29 #[pg g0,iU 4] (ni.cast (se (E:=kE4) A.sx (by decide) xt (by omega) (by omega)) kf11) ?_ ?_
  ·rintro _ v62 ⟨vb,n90,rfl,W,S,qn90a,qn90b,qn90c,C⟩;have j:=C.mono (fun b _ (e:b=g0)=>e▸A.sx.sa.top);replace g:=br g j (fun b hb=>Nat.le_trans l (A.sx.kb b hb));replace d:=opX a d (fun _ h=>.inl h) j;replace a:=d.1;replace d:=d.2;replace f:=opX c f (fun _ h=>.inl h) j;replace c:=f.1;replace f:=f.2;replace A:=A.op S (fun _ h=>.inl h) j;refine⟨_,rfl,⟨c,a⟩,?_⟩;have q:=a.lt;have u:=c.lt;refine za 10 92 [iU 8,iI 13] 61 (sg 1) ?_
   intro v63 g64 P O B;have yg64:=Nat.le_trans g.size O;have zg64:=Nat.le_trans A.size O;have nXg64:=A.new O;replace g:=ai g B;replace A:=A.keep B;replace a:=a.keep B;replace c:=c.keep B;replace W:=W.keep B;refine⟨⟨c,a⟩,?_⟩;refine zc 11 93 28 #[vb,sg 1 g64] (dx W (j8 [(8,13)] P rfl (Nat.zero_le _) (by decide)) (by decide)) ?_
   rintro _ v65 ⟨rfl,B⟩;replace g:=ai g B;replace A:=A.keep B;replace a:=a.keep B;replace c:=c.keep B;replace W:=W.keep B;replace P:=P.keep B;clear W;refine⟨_,rfl,⟨c,a⟩,?_⟩;exact z 12 94 (bT) (z 13 95 (bT) (z 14 96 (pg g0) (zlr 16 98 [iU 7,iI 12] (fun _ h=>h.2) 0 (zlr 17 99 [iU 8,iI 13] (fun _ h=>h.1) 0 (pk J61 () ⟨g,a,c,_,_,_,A.sx,by omega,by omega,d,f⟩)))))
  have q:=a.lt;have u:=c.lt;refine zaa 10 92 [iU 8,iI 13] 61 (sg 1) ?_ ?_
  ·intro v66 g67 H am B;have yg67:=Nat.le_trans g.size am;have zg67:=Nat.le_trans A.size am;have x:=A.new am;replace g:=ai g B;replace A:=A.keep B;replace a:=a.keep B;replace c:=c.keep B;refine⟨⟨c,a⟩,?_⟩;have lgn90:=A.sx.sa.lt A.sx.sa.top;refine zc 8 90 29 #[pg g0,iU 4] (ni.cast (se (E:=kE4) A.sx (by decide) xt (by omega) (by omega)) kf11) ?_
   rintro _ v68 ⟨vb,n90,rfl,W,S,qn90a,qn90b,qn90c,C⟩;have j:=C.mono (fun b _ (e:b=g0)=>e▸A.sx.sa.top);replace g:=br g j (fun b hb=>Nat.le_trans l (A.sx.kb b hb));replace d:=opX a d (fun _ h=>.inl h) j;replace a:=d.1;replace d:=d.2;replace f:=opX c f (fun _ h=>.inl h) j;replace c:=f.1;replace f:=f.2;replace x:=opX H x (fun _ h=>.inl h) j;replace H:=x.1;replace x:=x.2;replace A:=A.op S (fun _ h=>.inl h) j;refine⟨_,rfl,⟨c,a⟩,?_⟩;refine zc 11 93 28 #[vb,sg 1 g67] (dx W (j8 [(8,13)] H rfl (Nat.zero_le _) (by decide)) (by decide)) ?_
   rintro _ v69 ⟨rfl,B⟩;replace g:=ai g B;replace A:=A.keep B;replace a:=a.keep B;replace c:=c.keep B;replace H:=H.keep B;replace W:=W.keep B;clear W;refine⟨_,rfl,⟨c,a⟩,?_⟩;exact z 12 94 (bT) (z 13 95 (bT) (z 14 96 (pg g0) (zlr 16 98 [iU 7,iI 12] (fun _ h=>h.2) 0 (zlr 17 99 [iU 8,iI 13] (fun _ h=>h.1) 0 (pk J61 () ⟨g,a,c,_,_,_,A.sx,by omega,by omega,d,f⟩)))))
  exact iS
 clear g;clear A;clear a d;clear c f;rintro _ v70 ⟨g,a,c,Kj71,nj71,Nj71,S,qj71,rj71,d,f⟩;have A:=S.at
 refine p7 [0,1,2,3,4,5,6,7,8,9,10,11,12,13,14,15,16,17,18,19,20,21,22,23] 14 (fun(_:Unit)=>[(0,bF),(1,pg g0),(9,pg r),(103,bT),(104,pg g0),(105,.agg #[iU 8,iI 12])]) (fun _ w'=>Below w.heap.size w w'/\Blk w' D [iU 7,iI 12] 61/\Blk w' r [iU 8,iI 13] 61/\∃ K n N,Sx Bz w' K g0 kE4 [] n N/\n<=100000/\N<=1000/\¬ K D/\¬ K r) ?_ ?_
 ·intro J72;refine eX [15,18] ?_
  have lgn97:=A.sx.sa.lt A.sx.sa.top;refine jA 15 (some 97) 30 #[pg g0,iU 16] (ni.cast (sX (E:=kE4) A.sx (by decide) xt (by omega) (by omega)) kf12) ?_ ?_
  ·rintro _ v73 ⟨vc,n97,rfl,T,S,qn97a,qn97b,qn97c,C⟩;have j:=C.mono (fun b _ (e:b=g0)=>e▸A.sx.sa.top);replace g:=br g j (fun b hb=>Nat.le_trans l (A.sx.kb b hb));replace d:=opX a d (fun _ h=>.inl h) j;replace a:=d.1;replace d:=d.2;replace f:=opX c f (fun _ h=>.inl h) j;replace c:=f.1;replace f:=f.2;replace A:=A.op S (fun _ h=>.inl h) j;refine⟨_,rfl,⟨c,a⟩,?_⟩;have q:=a.lt;have u:=c.lt;refine za 18 100 [iU 7,iI 12,iU 8,iI 13] 61 (sg 2) ?_
   intro v74 g75 ad R B;have yg75:=Nat.le_trans g.size R;have zg75:=Nat.le_trans A.size R;have nXg75:=A.new R;replace g:=ai g B;replace A:=A.keep B;replace a:=a.keep B;replace c:=c.keep B;replace T:=T.keep B;refine⟨⟨c,a⟩,?_⟩;refine zc 19 101 28 #[vc,sg 2 g75] (dx T (j8 [(7,12),(8,13)] ad rfl (Nat.zero_le _) (by decide)) (by decide)) ?_
   rintro _ v76 ⟨rfl,B⟩;replace g:=ai g B;replace A:=A.keep B;replace a:=a.keep B;replace c:=c.keep B;replace T:=T.keep B;replace ad:=ad.keep B;clear T;refine⟨_,rfl,⟨c,a⟩,?_⟩;exact z 20 102 (bT) (z 21 103 (bT) (z 22 104 (pg g0) (zr 23 105 (.agg #[iU 8,iI 12]) (fun _ _=>iJ) (pk J72 () ⟨g,a,c,_,_,_,A.sx,by omega,by omega,d,f⟩))))
  have q:=a.lt;have u:=c.lt;refine zaa 18 100 [iU 7,iI 12,iU 8,iI 13] 61 (sg 2) ?_ ?_
  ·intro v77 g78 G ac B;have yg78:=Nat.le_trans g.size ac;have zg78:=Nat.le_trans A.size ac;have y:=A.new ac;replace g:=ai g B;replace A:=A.keep B;replace a:=a.keep B;replace c:=c.keep B;refine⟨⟨c,a⟩,?_⟩;have lgn97:=A.sx.sa.lt A.sx.sa.top;refine zc 15 97 30 #[pg g0,iU 16] (ni.cast (sX (E:=kE4) A.sx (by decide) xt (by omega) (by omega)) kf12) ?_
   rintro _ v79 ⟨vc,n97,rfl,T,S,qn97a,qn97b,qn97c,C⟩;have j:=C.mono (fun b _ (e:b=g0)=>e▸A.sx.sa.top);replace g:=br g j (fun b hb=>Nat.le_trans l (A.sx.kb b hb));replace d:=opX a d (fun _ h=>.inl h) j;replace a:=d.1;replace d:=d.2;replace f:=opX c f (fun _ h=>.inl h) j;replace c:=f.1;replace f:=f.2;replace y:=opX G y (fun _ h=>.inl h) j;replace G:=y.1;replace y:=y.2;replace A:=A.op S (fun _ h=>.inl h) j;refine⟨_,rfl,⟨c,a⟩,?_⟩;refine zc 19 101 28 #[vc,sg 2 g78] (dx T (j8 [(7,12),(8,13)] G rfl (Nat.zero_le _) (by decide)) (by decide)) ?_
   rintro _ v80 ⟨rfl,B⟩;replace g:=ai g B;replace A:=A.keep B;replace a:=a.keep B;replace c:=c.keep B;replace G:=G.keep B;replace T:=T.keep B;clear T;refine⟨_,rfl,⟨c,a⟩,?_⟩;exact z 20 102 (bT) (z 21 103 (bT) (z 22 104 (pg g0) (zr 23 105 (.agg #[iU 8,iI 12]) (fun _ _=>iJ) (pk J72 () ⟨g,a,c,_,_,_,A.sx,by omega,by omega,d,f⟩))))
  exact iS
 clear g;clear A;clear a d;clear c f;rintro _ v81 ⟨g,a,c,Kj82,nj82,Nj82,S,qj82,rj82,d,f⟩;have A:=S.at
 refine zc 24 106 19 #[pg g0,.agg #[iU 8,iI 12]] (SxF.cast (mN (E:=kE4) A.sx (by decide) (by omega) (by omega)) kf13.2 (congrArg Value.bool kf13.1)) ?_
 rintro _ v87 ⟨rfl,K83,n84,N85,S,qn84,qN85,p,j⟩;replace g:=br g j (fun b hb=>Nat.le_trans l (A.sx.kb b hb));obtain⟨a,d⟩:=au a d p j;obtain⟨c,f⟩:=au c f p j;replace A:=A.op S p j;refine⟨_,rfl,⟨c,a⟩,?_⟩;refine z 25 107 (bT) (z 26 108 (bT) (z 27 109 (bT) (z 28 110 (pg g0) (zlr 29 111 [iU 8,iI 13] (fun _ h=>h.1) 0 (zc 30 112 19 #[pg g0,.agg #[iU 8,iI 13]] (SxF.cast (E':=kE5) (mN (E:=kE4) A.sx (by decide) (by omega) (by omega)) rfl (congrArg Value.bool kf14.1)) ?_)))));rintro _ v92 ⟨rfl,K88,n89,N90,S,qn89,qN90,p,j⟩;replace g:=br g j (fun b hb=>Nat.le_trans l (A.sx.kb b hb));obtain⟨a,d⟩:=au a d p j;obtain⟨c,f⟩:=au c f p j;replace A:=A.op S p j;refine⟨_,rfl,⟨c,a⟩,?_⟩;refine z 31 113 (bT) (z 32 114 (bT) (z 33 115 (pg g0) (zc 34 116 24 #[pg g0,iU 20,iU 16] (SxE.cast (E:=kE5) (ek A.sx (by decide) (by omega) (by omega)) rfl (congrArg (Value.int .u64) kf14.2)) ?_)));rintro _ v94 ⟨rfl,K93,S,p,j⟩;replace g:=br g j (fun b hb=>Nat.le_trans l (A.sx.kb b hb));obtain⟨a,d⟩:=au a d p j;obtain⟨c,f⟩:=au c f p j;replace A:=A.op S p j;refine⟨_,rfl,⟨c,a⟩,?_⟩;refine z 35 117 (bT) (z 36 118 (bT) (z 37 0 (bT) (bB (aa (aG [(0,bT)] (aF (aE (bT) (rs1 0 (by kernel_rfl) (by kernel_rfl)) ?_)))))));exact⟨rfl,g⟩
end Qu
end
end Go.Proofs.YtidnifmehnjipaaGreat
