import Derived.Test.YtidnifmehnjipaaGreatJau
set_option maxRecDepth 100000
set_option maxHeartbeats 8000000
namespace Go.Proofs.YtidnifmehnjipaaGreat
section
namespace Qu
open Go.RowKit Go.Lib Pg Lim Gl Kv Bk Pw
attribute [local go_sem] Oper.semAt_some
set_option linter.unusedVariables false
set_option linter.unusedSimpArgs false
section
variable {w:World}{B q n:Nat}{v kv:Value}{l k:List Int}{E:ay}{x y x0 x1 x2 x3 x4 x5 a b id:Int}{X:Nat->Prop}
theorem wG(h:bz w B v l)(d:Oct l):ByU w v l:=by
 obtain⟨_,f⟩:=h;rcases f with⟨rfl,h0⟩ | ⟨g,cap,cur,rfl,hB,hh,hle,hmx,hsz,htk⟩
 ·have e:=List.eq_nil_of_length_eq_zero h0;subst e;exact⟨⟨none,0,rfl,Nat.le_refl _,by decide,fun _=>rfl,d,.inl rfl⟩,fun b o n c e=>by cases e⟩
 ·refine⟨⟨_,cap,rfl,hle,hmx,fun e=>by (cases e),d,.inr ⟨g,0,rfl,lt_of_block hh,fun i x hi=>?_⟩⟩,fun b o n c e=>by cases e;exact⟨_,_,hh⟩⟩
  have a:(cur.toList.take (l.length * 1))[i]?=some (.int .u8 x):=by
   rw[htk,List.getElem?_map,hi];rfl
  rw[List.getElem?_take] at a;split at a
  ·rw[Nat.zero_add];simp only[World.cell?,hh];rw[<- Array.getElem?_toList];simpa using a
  ·cases a
theorem jP(h:¬ (Kv.look E k).isSome=true):got E k=[]:=by
 unfold got
 cases e:Kv.look E k with
 | none=>rfl
 | some v=>rw[e] at h;simp at h
theorem rH:bE []=0:=by decide
theorem uA_nil:uA []=#[.int .u64 0,.int .u64 0,.int .u64 0,.int .u64 0,.int .u64 0,.int .u64 0]:=by kernel_rfl
theorem jZ:ey []=0/\aJ []=0:=by decide
theorem iP:Calls Tryz.prog 10 #[.agg #[.int .u64 x,.int .u64 y]] w fun e w'=>∃ v,e=.returned v/\ByU w' v (pv x y)/\Below w.heap.size w w':=by
 refine Rc.wV.mono ?_
 rintro e w' ⟨v,rfl,M,B⟩;exact⟨v,rfl,wG M (zR x y),B⟩
theorem fl:Calls Tryz.prog 57 #[.int .u64 x] w fun e w'=>∃ v,e=.returned v/\ByU w' v (nv x)/\Below w.heap.size w w':=by
 refine Rc.tH.mono ?_
 rintro e w' ⟨v,rfl,M,B⟩;exact⟨v,rfl,wG M (AK x),B⟩
theorem gO:Calls Tryz.prog 42 #[.agg #[.int .u64 x0,.int .u64 x1,.int .u64 x2,.int .u64 x3,.int .u64 x4,.int .u64 x5]] w fun e w'=>∃ v,e=.returned v/\ByU w' v (uv x0 x1 x2 x3 x4 x5)/\Below w.heap.size w w':=by
 refine Rc.om.mono ?_
 rintro e w' ⟨v,rfl,M,B⟩;exact⟨v,rfl,wG M (Bm _ _ _ _ _ _),B⟩
theorem wQ(h:ByU w v l):Calls Tryz.prog 99 #[v] w fun e w'=>e=.returned (.tuple #[.agg #[.int .u64 (ey l),.int .u64 (aJ l)],.int .i64 (Rc.aV (Rc.b8 l))])/\Below w.heap.size w w':=by
 obtain⟨b,d,c,rfl,a⟩:=bya h.byt;exact Rc.rChain a
theorem nO(h:ByU w v l):Calls Tryz.prog 108 #[v] w fun e w'=>e=.returned (.tuple #[.int .u64 (bE l),.int .i64 (Rc.aV (Rc.bM l))])/\Below w.heap.size w w':=by
 obtain⟨b,d,c,rfl,a⟩:=bya h.byt;exact Rc.CK a
theorem oe(h:ByU w v l):Calls Tryz.prog 105 #[v] w fun e w'=>e=.returned (.tuple #[.agg (uA l),.int .i64 (Rc.aV (Rc.aI l))])/\Below w.heap.size w w':=by
 obtain⟨b,ao,c,rfl,h2⟩:=bya h.byt;exact Rc.uI h2
theorem sr(E:ay):(dD E).length<=E.length+1:=Pw.dt _ _ _
def pw(E:ay)(k i a b d:Int):ay :=
 let E1:=put (put E (Ky.mk 14 d i) (nv k)) (Ky.mk 15 b i) (nv k)
 put E1 (Ky.mk 17 a b) (nv ((dq E1 a b+1) % 18446744073709551616))
theorem pA(h:Rx B w X q E n)(U:ByU w kv k)(d:k.length<=1000000000)(hn:n+4<=4000000000000000000)(hm:E.length+4<=1000000):Calls Tryz.prog 56 #[pg q,kv] w (RxE B w X q E (n+1) (.int .u64 (bE (got E k)))):=by
 have A:=h.at
 refine aC (n:=23) Tryz.func56 rfl ?_
 refine ab (ag (t 4 (iU 0) (ae (aa (ab (ag (t 10 (pg q) (t 11 (kv) ?_))))))));by_cases c1:(Kv.look E k).isSome=true
 ·refine tc 12 98 #[pg q,kv] (lA A.rx U d (by omega) (by omega) c1) ?_
  rintro _ l ⟨a,rfl,e,g,S,f,c⟩;refine⟨_,rfl,?_⟩;replace U:=A.byu U c;replace A:=A.op S f c;refine t 9 (.tuple #[a,bT]) (t 13 (a) (t 14 (bT) (t 5 (a) (t 6 (bT) (ae (aa (ab (ab (ag (t 15 (bT) (t 16 (bF) (ae (aa (aG [(4,iU 0),(5,a),(16,bF)] (aW (aK (aa (ab (ag (t 18 (a) (tc 19 108 #[a] (nO e) ?_)))))))))))))))))))));rintro _ v6 ⟨rfl,B⟩;refine⟨_,rfl,?_⟩;replace U:=aA U B;replace A:=A.keep B;replace e:=aA e B;clear e;refine t 17 (.tuple #[iU (bE (got E k)),iI (Rc.aV (Rc.bM (got E k)))]) (t 20 (iU (bE (got E k))) (t 21 (iI (Rc.aV (Rc.bM (got E k)))) (t 7 (iU (bE (got E k))) (t 8 (iI (Rc.aV (Rc.bM (got E k)))) (ae (aa (ab (ag (t 22 (iU (bE (got E k))) (t 4 (iU (bE (got E k))) (ae (aa (aF (aE (iU (bE (got E k))) (rs1 4 (by kernel_rfl) (by kernel_rfl)) ?_))))))))))))));exact⟨rfl,_,A.rx,A.xm,A.cc⟩
 ·refine tc 12 98 #[pg q,kv] (lA A.rx U d (by omega) (by omega) (Bool.eq_false_iff.2 c1)) ?_
  rintro _ v10 ⟨b,rfl,i,j,S,f,c⟩;refine⟨_,rfl,?_⟩;replace U:=A.byu U c;replace A:=A.op S f c;refine t 9 (.tuple #[b,bF]) (t 13 (b) (t 14 (bF) (t 5 (b) (t 6 (bF) (ae (aa (ab (ab (ag (t 15 (bF) (t 16 (bT) (ae (aa (aG [(4,iU 0),(5,b),(16,bT)] (aP (ab (ag (t 4 (iU 0) (ae (aa (aF (dm (aE (iU 0) (rs1 4 (by kernel_rfl) (by kernel_rfl)) ?_)))))))))))))))))))))));rw[show bE (got E k)=0 by rw[jP c1];exact rH];exact⟨rfl,_,A.rx,A.xm,A.cc⟩
theorem rcount(h:Rx B w X q E n)(g:0<=a/\a < 18446744073709551616)(hn:n+4<=4000000000000000000)(hm:E.length+4<=1000000):Calls Tryz.prog 60 #[pg q,.int .u64 a,.int .u64 b] w (RxE B w X q E (n+1) (.int .u64 (dq E a b))):=by
 have A:=h.at
 refine aC (n:=12) Tryz.func60 rfl ?_
 refine ab (ag (t 6 (iU 0) (ae (aa (ab (ag (t 7 (pg q) (t 8 (iU a) (t 9 (iU b) (tc 10 9 #[iI 17,iU a,iU b] (iA g (jT a b)) ?_))))))))));rintro _ i ⟨c,rfl,d,B⟩;refine⟨_,rfl,?_⟩;replace A:=A.keep B;refine tc 11 56 #[pg q,c] (pA A.rx d (Nat.le_trans (Ky.cL _ _ _) (by decide)) (by omega) (by omega)) ?_
 rintro _ k ⟨rfl,j,S,f,e⟩;refine⟨_,rfl,?_⟩;replace d:=A.byu d e;replace A:=A.op S f e;refine t 6 (iU (bE (got E (Ky.mk 17 a b)))) (ae (aa (aF (aE (iU (bE (got E (Ky.mk 17 a b)))) (rs1 6 (by kernel_rfl) (by kernel_rfl)) ?_))));exact⟨rfl,_,A.rx,A.xm,A.cc⟩
theorem EY(h:Rx B w X q E n)(hn:n+4<=4000000000000000000)(hm:E.length+4<=1000000):Calls Tryz.prog 41 #[pg q] w (RxE B w X q (dD E) (n+2) (.int .u64 (aJ (chn E)))):=by
 have A:=h.at
 refine aC (n:=33) Tryz.func41 rfl ?_
 refine ab (ag (t 2 (iU 0) (ae (aa (ab (ag (tc 8 9 #[iI 2,iU 0,iU 0] (iA ⟨by decide,by decide⟩ nV) ?_)))))));rintro _ O ⟨d,rfl,c,B⟩;refine⟨_,rfl,?_⟩;replace A:=A.keep B;refine t 3 (d) (ae (aa (ab (ag (ta 4 [iU 0,iU 0] 40 (pg) ?_)))));intro v4 k a u B;obtain⟨o,b,A⟩:=A.al u B;replace c:=aA c B;refine ae (aa (ab (ag (t 10 (pg q) (t 11 (d) ?_)))));by_cases v:(Kv.look E (Ky.mk 2 0 0)).isSome=true
 ·refine tc 12 98 #[pg q,d] (lA A.rx c (Nat.le_trans (Ky.cL _ _ _) (by decide)) (by omega) (by omega) v) ?_
  rintro _ v10 ⟨i,rfl,s,P,S,j,e⟩;refine⟨_,rfl,?_⟩;replace c:=A.byu c e;obtain⟨a,b⟩:=au a b j e;replace A:=A.op S j e;refine t 9 (.tuple #[i,bT]) (t 13 (i) (t 14 (bT) (t 5 (i) (t 6 (bT) (ae (aa (aG [(0,pg q),(2,iU 0),(3,d),(4,pg k),(5,i),(6,bT)] (ab (ab (ag (t 15 (bT) (ae (aa (aP (ag (t 17 (i) (tc 18 99 #[i] (wQ s) ?_)))))))))))))))));rintro _ v11 ⟨rfl,B⟩;refine⟨_,rfl,?_⟩;replace A:=A.keep B;replace c:=aA c B;replace a:=a.keep B;replace s:=aA s B;clear s;refine t 16 (.tuple #[.agg #[iU (ey (got E (Ky.mk 2 0 0))),iU (aJ (got E (Ky.mk 2 0 0)))],iI (Rc.aV (Rc.b8 (got E (Ky.mk 2 0 0))))]) (t 19 (.agg #[iU (ey (got E (Ky.mk 2 0 0))),iU (aJ (got E (Ky.mk 2 0 0)))]) (t 20 (iI (Rc.aV (Rc.b8 (got E (Ky.mk 2 0 0))))) (ts a 0 (.agg #[iU (ey (got E (Ky.mk 2 0 0))),iU (aJ (got E (Ky.mk 2 0 0)))]) [iU (ey (got E (Ky.mk 2 0 0))),iU (aJ (got E (Ky.mk 2 0 0)))] [iU (ey (got E (Ky.mk 2 0 0))),iU (aJ (got E (Ky.mk 2 0 0)))] ?_)));intro G Y C;replace A:=Ar.cell A a C o b (by decide);replace c:=bP c a C (by decide);have a:=Y;refine ae (aa (ab (ag (t 21 (pq k 1) (tl 22 (iU (aJ (got E (Ky.mk 2 0 0)))) a 1 (t 7 (iU (aJ (got E (Ky.mk 2 0 0)))) (ae (aa (ab (ag (t 23 (pq k 1) (tl 24 (iU (aJ (got E (Ky.mk 2 0 0)))) a 1 (tq 25 (iU (IntKind.u64.wrap (aJ (got E (Ky.mk 2 0 0))+1))) (iU ((aJ (got E (Ky.mk 2 0 0))+1) % 18446744073709551616)) (congrArg (Value.int .u64) (IntKind.wrap_u64 _)) (t 26 (pq k 1) (ts a 1 (iU ((aJ (got E (Ky.mk 2 0 0))+1) % 18446744073709551616)) [iU ((aJ (got E (Ky.mk 2 0 0))+1) % 18446744073709551616)] [iU (ey (got E (Ky.mk 2 0 0))),iU ((aJ (got E (Ky.mk 2 0 0))+1) % 18446744073709551616)] ?_)))))))))))))));intro y Y C;replace A:=Ar.cell A a C o b (by decide);replace c:=bP c a C (by decide);have a:=Y;refine ae (aa (aG [(0,pg q),(2,iU 0),(3,d),(4,pg k),(7,iU (aJ (got E (Ky.mk 2 0 0))))] (ab (ag (t 27 (pg q) (t 28 (d) (tlr 29 [iU (ey (got E (Ky.mk 2 0 0))),iU ((aJ (got E (Ky.mk 2 0 0))+1) % 18446744073709551616)] a 0 (tc 30 10 #[.agg #[iU (ey (got E (Ky.mk 2 0 0))),iU ((aJ (got E (Ky.mk 2 0 0))+1) % 18446744073709551616)]] (iP) ?_))))))));rintro _ D ⟨r,rfl,m,B⟩;refine⟨_,rfl,?_⟩;replace A:=A.keep B;replace c:=aA c B;replace a:=a.keep B;have I:=Pw.dt E (Ky.mk 2 0 0) (pv (ey (got E (Ky.mk 2 0 0))) ((aJ (got E (Ky.mk 2 0 0))+1) % 18446744073709551616));refine tc 31 8 #[pg q,d,r] (gJ A.rx c m (by omega) (by omega) (dN nV (Nat.le_trans (kt _ _) (by decide)))) ?_
  rintro _ K ⟨rfl,L,S,j,e⟩;refine⟨_,rfl,?_⟩;replace c:=A.byu c e;obtain⟨a,b⟩:=au a b j e;replace m:=A.byu m e;replace A:=A.op S j e;refine ae (aa (ab (ag (t 32 (iU (aJ (got E (Ky.mk 2 0 0)))) (t 2 (iU (aJ (got E (Ky.mk 2 0 0)))) (ae (aa (aF (aE (iU (aJ (got E (Ky.mk 2 0 0)))) (rs1 2 (by kernel_rfl) (by kernel_rfl)) ?_)))))))));exact⟨rfl,_,A.rx,A.xm,A.cc⟩
 ·refine tc 12 98 #[pg q,d] (lA A.rx c (Nat.le_trans (Ky.cL _ _ _) (by decide)) (by omega) (by omega) (Bool.eq_false_iff.2 v)) ?_
  rintro _ N ⟨f,rfl,g,F,S,j,e⟩;refine⟨_,rfl,?_⟩;replace c:=A.byu c e;obtain⟨a,b⟩:=au a b j e;replace A:=A.op S j e;refine t 9 (.tuple #[f,bF]) (t 13 (f) (t 14 (bF) (t 5 (f) (t 6 (bF) (ae (aa (aG [(0,pg q),(2,iU 0),(3,d),(4,pg k),(5,f),(6,bF)] (ab (ab (ag (t 15 (bF) (ae (aa (aW (aK (aa (ab (ag (t 21 (pq k 1) (tl 22 (iU 0) a 1 (t 7 (iU 0) (ae (aa (ab (ag (t 23 (pq k 1) (tl 24 (iU 0) a 1 (t 25 (iU 1) (t 26 (pq k 1) (ts a 1 (iU 1) [iU 1] [iU 0,iU 1] ?_))))))))))))))))))))))))))))));intro z Y C;replace A:=Ar.cell A a C o b (by decide);replace c:=bP c a C (by decide);replace g:=bP g a C (by decide);have a:=Y;refine ae (aa (ab (ag (t 27 (pg q) (t 28 (d) (tlr 29 [iU 0,iU 1] a 0 (tc 30 10 #[.agg #[iU 0,iU 1]] (iP) ?_)))))));rintro _ J ⟨p,rfl,l,B⟩;refine⟨_,rfl,?_⟩;replace A:=A.keep B;replace c:=aA c B;replace a:=a.keep B;replace g:=aA g B;have H:=Pw.dt E (Ky.mk 2 0 0) (pv 0 1);refine tc 31 8 #[pg q,d,p] (gJ A.rx c l (by omega) (by omega) (dN nV (Nat.le_trans (kt _ _) (by decide)))) ?_
  rintro _ v30 ⟨rfl,M,S,j,e⟩;refine⟨_,rfl,?_⟩;replace c:=A.byu c e;obtain⟨a,b⟩:=au a b j e;replace g:=A.byu g e;replace l:=A.byu l e;replace A:=A.op S j e;refine ae (aa (aG [(2,iU 0),(7,iU 0)] (ab (ag (t 32 (iU 0) (t 2 (iU 0) (ae (aa (aF (aE (iU 0) (rs1 2 (by kernel_rfl) (by kernel_rfl)) ?_))))))))))
  have x:chn E=[]:=jP v;rw[show dD E=put E (Ky.mk 2 0 0) (pv 0 1) by unfold dD;rw[x,jZ.1,jZ.2];rfl,x,jZ.2];exact⟨rfl,_,A.rx,A.xm,A.cc⟩
theorem BM{k i d:Int}(h:Rx B w X q E n)(y:0<=k/\k < 18446744073709551616)(I:0<=a/\a < 18446744073709551616)(hb:0<=b/\b < 18446744073709551616)(L:0<=d/\d < 18446744073709551616)(hn:n+20<=4000000000000000000)(hm:E.length+20<=1000000):Calls Tryz.prog 43 #[pg q,.int .i64 k,.int .u64 i,.int .u64 a,.int .u64 b,.int .u64 d] w (RxE B w X q (pw E k i a b d) (n+4) (.tuple #[])):=by
 have A:=h.at
 refine aC (n:=40) Tryz.func43 rfl ?_
 refine ab (ag (t 13 (pg q) (t 14 (iU d) (t 15 (iU i) (tc 16 9 #[iI 14,iU d,iU i] (iA L (kZ d i)) ?_)))));rintro _ R ⟨x,rfl,j,B⟩;refine⟨_,rfl,?_⟩;replace A:=A.keep B;refine t 17 (iI k) (tr 18 (iU k) (j3 k y) (tc 19 57 #[iU k] (fl) ?_));rintro _ v6 ⟨v,rfl,m,B⟩;refine⟨_,rfl,?_⟩;replace A:=A.keep B;replace j:=aA j B;have U:=Pw.dt E (Ky.mk 14 d i) (nv k);refine tc 20 8 #[pg q,x,v] (gJ A.rx j m (by omega) (by omega) (dN (kZ d i) (Nat.le_trans (fA _) (by decide)))) ?_
 rintro _ Q ⟨rfl,T,S,p,e⟩;refine⟨_,rfl,?_⟩;replace j:=A.byu j e;replace m:=A.byu m e;replace A:=A.op S p e;refine ae (aa (aG [(0,pg q),(1,iI k),(2,iU i),(3,iU a),(4,iU b)] (ab (ag (t 21 (pg q) (t 22 (iU b) (t 23 (iU i) (tc 24 9 #[iI 15,iU b,iU i] (iA hb (ly b i)) ?_))))))));rintro _ M ⟨r,rfl,c,B⟩;refine⟨_,rfl,?_⟩;replace A:=A.keep B;replace j:=aA j B;replace m:=aA m B;refine t 25 (iI k) (tr 26 (iU k) (j3 k y) (tc 27 57 #[iU k] (fl) ?_));rintro _ C ⟨s,rfl,f,B⟩;refine⟨_,rfl,?_⟩;replace A:=A.keep B;replace j:=aA j B;replace m:=aA m B;replace c:=aA c B;have G:=Pw.dt (put E (Ky.mk 14 d i) (nv k)) (Ky.mk 15 b i) (nv k);refine tc 28 8 #[pg q,r,s] (gJ A.rx c f (by omega) (by omega) (dN (ly b i) (Nat.le_trans (fA _) (by decide)))) ?_
 rintro _ O ⟨rfl,F,S,p,e⟩;refine⟨_,rfl,?_⟩;replace j:=A.byu j e;replace m:=A.byu m e;replace c:=A.byu c e;replace f:=A.byu f e;replace A:=A.op S p e;refine ae (aa (ab (ag (t 29 (iU a) (t 30 (iU b) (tc 31 9 #[iI 17,iU a,iU b] (iA I (jT a b)) ?_))))));rintro _ z ⟨g,rfl,l,B⟩;refine⟨_,rfl,?_⟩;replace A:=A.keep B;replace j:=aA j B;replace m:=aA m B;replace c:=aA c B;replace f:=aA f B;refine t 12 (g) (ae (aa (aG [(0,pg q),(12,g)] (ag (t 32 (pg q) (t 33 (g) (t 34 (pg q) (t 35 (g) (tc 36 56 #[pg q,g] (pA A.rx l (Nat.le_trans (Ky.cL _ _ _) (by decide)) (by omega) (by omega)) ?_)))))))));rintro _ P ⟨rfl,J,S,p,e⟩;refine⟨_,rfl,?_⟩;replace j:=A.byu j e;replace m:=A.byu m e;replace c:=A.byu c e;replace f:=A.byu f e;replace l:=A.byu l e;replace A:=A.op S p e;refine tq 37 (iU (IntKind.u64.wrap (bE (got (put (put E (Ky.mk 14 d i) (nv k)) (Ky.mk 15 b i) (nv k)) (Ky.mk 17 a b))+1))) (iU ((bE (got (put (put E (Ky.mk 14 d i) (nv k)) (Ky.mk 15 b i) (nv k)) (Ky.mk 17 a b))+1) % 18446744073709551616)) (congrArg (Value.int .u64) (IntKind.wrap_u64 _)) (tc 38 57 #[iU ((bE (got (put (put E (Ky.mk 14 d i) (nv k)) (Ky.mk 15 b i) (nv k)) (Ky.mk 17 a b))+1) % 18446744073709551616)] (fl) ?_);rintro _ K ⟨u,rfl,o,B⟩;refine⟨_,rfl,?_⟩;replace A:=A.keep B;replace j:=aA j B;replace m:=aA m B;replace c:=aA c B;replace f:=aA f B;replace l:=aA l B;have D:=Pw.dt (put (put E (Ky.mk 14 d i) (nv k)) (Ky.mk 15 b i) (nv k)) (Ky.mk 17 a b) (nv ((bE (got (put (put E (Ky.mk 14 d i) (nv k)) (Ky.mk 15 b i) (nv k)) (Ky.mk 17 a b))+1) % 18446744073709551616));refine tc 39 8 #[pg q,g,u] (gJ A.rx l o (by omega) (by omega) (dN (jT a b) (Nat.le_trans (fA _) (by decide)))) ?_
 rintro _ N ⟨rfl,H,S,p,e⟩;refine⟨_,rfl,?_⟩;replace j:=A.byu j e;replace m:=A.byu m e;replace c:=A.byu c e;replace f:=A.byu f e;replace l:=A.byu l e;replace o:=A.byu o e;replace A:=A.op S p e;refine ae (j7 (.tuple #[]) (rs0 (by kernel_rfl)) ?_);exact⟨rfl,_,A.rx,A.xm,A.cc⟩
theorem Ed(h:Rx B w X q E n)(k:Oct (chn E))(l:0<=x0/\x0 < 18446744073709551616)(r:0<=x1/\x1 < 18446744073709551616)(o:0<=x3/\x3 < 18446744073709551616)(hn:n+40<=4000000000000000000)(hm:E.length+40<=1000000):Calls Tryz.prog 12 #[pg q,.agg #[.int .u64 x0,.int .u64 x1,.int .u64 x2,.int .u64 x3,.int .u64 x4,.int .u64 x5]] w (RxE B w X q (pw (put (dD E) (Ky.mk 12 (aJ (chn E)) 0) (uv x0 x1 x2 x3 x4 x5)) 12 (aJ (chn E)) x0 x1 x3) (n+7) (.int .u64 (aJ (chn E)))):=by
 have m:0<=aJ (chn E)/\aJ (chn E) < 18446744073709551616:=lN k;have A:=h.at
 refine aC (n:=24) Tryz.func12 rfl ?_
 refine ab (ag (ta 3 [iU x0,iU x1,iU x2,iU x3,iU x4,iU x5] 42 (pg) ?_));intro v1 i a p B;obtain⟨C,b,A⟩:=A.al p B;refine t 4 (iU 0) (ae (aa (ab (ag (t 6 (pg q) ?_)))));have F:=sr E;refine tc 7 41 #[pg q] (EY A.rx (by omega) (by omega)) ?_
 rintro _ I ⟨rfl,G,S,d,c⟩;refine⟨_,rfl,?_⟩;obtain⟨a,b⟩:=au a b d c;replace A:=A.op S d c;refine t 5 (iU (aJ (chn E))) (ae (aa (ab ?_)));replace A:=A.drew;replace a:=a.drew;refine bI (fun y=>Blk y i [iU x0,iU x1,iU x2,iU x3,iU x4,iU x5] 42) (fun _=>false) a ?_
 refine z 0 8 (pg q) (z 1 9 (iU (aJ (chn E))) (zlr 3 11 [iU x0,iU x1,iU x2,iU x3,iU x4,iU x5] (fun _ h=>h) 0 (zc 2 10 9 #[iI 12,iU (aJ (chn E)),iU 0] (iA m (gR (aJ (chn E)))) ?_)));rintro _ H ⟨j,rfl,e,B⟩;replace A:=A.keep B;replace a:=a.keep B;refine⟨_,rfl,a,?_⟩;refine zc 4 12 42 #[.agg #[iU x0,iU x1,iU x2,iU x3,iU x4,iU x5]] (gO) ?_
 rintro _ v11 ⟨g,rfl,f,B⟩;replace A:=A.keep B;replace a:=a.keep B;replace e:=aA e B;refine⟨_,rfl,a,?_⟩;have D:=Pw.dt (dD E) (Ky.mk 12 (aJ (chn E)) 0) (uv x0 x1 x2 x3 x4 x5);refine zc 5 13 8 #[pg q,j,g] (gJ A.rx e f (by omega) (by omega) (dN (gR (aJ (chn E))) (Nat.le_trans (qf ..) (by decide)))) ?_
 rintro _ v ⟨rfl,s,S,d,c⟩;obtain⟨a,b⟩:=au a b d c;replace e:=A.byu e c;replace f:=A.byu f c;replace A:=A.op S d c;refine⟨_,rfl,a,?_⟩;refine bB (aa (aG [(0,pg q),(3,pg i),(4,iU 0),(5,iU (aJ (chn E)))] (ab (ag (t 14 (pg q) (t 15 (iU (aJ (chn E))) (t 16 (pg i) (tl 17 (iU x0) a 0 (t 18 (pq i 1) (tl 19 (iU x1) a 1 (t 20 (pq i 3) (tl 21 (iU x3) a 3 (tc 22 43 #[pg q,iI 12,iU (aJ (chn E)),iU x0,iU x1,iU x3] (BM A.rx ⟨by decide,by decide⟩ l r o (by omega) (by omega)) ?_)))))))))))));rintro _ u ⟨rfl,x,S,d,c⟩;refine⟨_,rfl,?_⟩;obtain⟨a,b⟩:=au a b d c;replace e:=A.byu e c;replace f:=A.byu f c;replace A:=A.op S d c;refine ae (aa (ab (ag (t 23 (iU (aJ (chn E))) (t 4 (iU (aJ (chn E))) (ae (aa (aF (aE (iU (aJ (chn E))) (rs1 4 (by kernel_rfl) (by kernel_rfl)) ?_)))))))));exact⟨rfl,_,A.rx,A.xm,A.cc⟩
theorem l7(h:Rx B w X q E n)(x:0<=id/\id < 18446744073709551616)(hn:n+4<=4000000000000000000)(hm:E.length+4<=1000000):Calls Tryz.prog 49 #[pg q,.int .u64 id] w (RxE B w X q E (n+1) (.tuple #[.agg (uA (got E (Ky.mk 12 id 0))),.bool (Kv.look E (Ky.mk 12 id 0)).isSome])):=by
 have A:=h.at
 refine aC (n:=26) Tryz.func49 rfl ?_
 refine ab (ag (ta 4 zz6 42 (pg) ?_));intro v1 u a y B;obtain⟨p,c,A⟩:=A.al y B;refine t 5 (bF) (ae (aa (ab (ag (t 11 (pg q) (t 12 (iU id) (tc 13 9 #[iI 12,iU id,iU 0] (iA x (gR id)) ?_)))))));rintro _ L ⟨m,rfl,d,B⟩;refine⟨_,rfl,?_⟩;replace A:=A.keep B;replace a:=a.keep B;by_cases r:(Kv.look E (Ky.mk 12 id 0)).isSome=true
 ·refine tc 14 98 #[pg q,m] (lA A.rx d (Nat.le_trans (Ky.cL _ _ _) (by decide)) (by omega) (by omega) r) ?_
  rintro _ v10 ⟨f,rfl,v,K,S,l,i⟩;refine⟨_,rfl,?_⟩;obtain⟨a,c⟩:=au a c l i;replace d:=A.byu d i;replace A:=A.op S l i;refine t 10 (.tuple #[f,bT]) (t 15 (f) (t 16 (bT) (t 6 (f) (t 7 (bT) (ae (aa (aG [(4,pg u),(5,bF),(6,f),(7,bT)] (ab (ab (ag (t 17 (bT) (t 18 (bF) (ae (aa (aW (aK (aa (ab (ag (t 21 (f) (tc 22 105 #[f] (oe v) ?_)))))))))))))))))))));rintro _ v11 ⟨rfl,B⟩;refine⟨_,rfl,?_⟩;replace A:=A.keep B;replace a:=a.keep B;replace d:=aA d B;replace v:=aA v B;clear v;refine t 20 (.tuple #[.agg (uA (got E (Ky.mk 12 id 0))),iI (Rc.aV (Rc.aI (got E (Ky.mk 12 id 0))))]) (t 23 (.agg (uA (got E (Ky.mk 12 id 0)))) (t 24 (iI (Rc.aV (Rc.aI (got E (Ky.mk 12 id 0))))) ?_));have z:=a.lt;refine ta 8 zz6 42 (pg) ?_
  intro I o b s B;obtain⟨j,g,A⟩:=A.al s B;replace a:=a.keep B;replace d:=aA d B;refine ts b 0 (.agg (uA (got E (Ky.mk 12 id 0)))) (uL (got E (Ky.mk 12 id 0))) (uL (got E (Ky.mk 12 id 0))) ?_
  intro H Y C;replace A:=Ar.cell A b C j g (by decide);replace a:=a.chg C (show u≠o by omega);replace d:=bP d b C (by decide);have b:=Y;refine t 9 (iI (Rc.aV (Rc.aI (got E (Ky.mk 12 id 0))))) (ae (aa (ab (ag (tlr 25 (uL (got E (Ky.mk 12 id 0))) b 0 (ts a 0 (.agg (uA (got E (Ky.mk 12 id 0)))) (uL (got E (Ky.mk 12 id 0))) (uL (got E (Ky.mk 12 id 0))) ?_))))));intro F Y C;replace A:=Ar.cell A a C p c (by decide);replace d:=bP d a C (by decide);replace b:=b.chg C (show o≠u by omega);have a:=Y;refine t 5 (bT) (ae (aa (aF (aE (.tuple #[.agg (uA (got E (Ky.mk 12 id 0))),bT]) (iQ 4 5 (T:=42) (by kernel_rfl) (by kernel_rfl) (by kernel_rfl) (lr a 0)) ?_))));rw[r];exact⟨rfl,_,A.rx,A.xm,A.cc⟩
 ·refine tc 14 98 #[pg q,m] (lA A.rx d (Nat.le_trans (Ky.cL _ _ _) (by decide)) (by omega) (by omega) (Bool.eq_false_iff.2 r)) ?_
  rintro _ J ⟨e,rfl,k,G,S,l,i⟩;refine⟨_,rfl,?_⟩;obtain⟨a,c⟩:=au a c l i;replace d:=A.byu d i;replace A:=A.op S l i;refine t 10 (.tuple #[e,bF]) (t 15 (e) (t 16 (bF) (t 6 (e) (t 7 (bF) (ae (aa (aG [(4,pg u),(5,bF),(6,e),(7,bF)] (ab (ab (ag (t 17 (bF) (t 18 (bT) (ae (aa (aP (ab (ag (t 19 (.agg zz6A) (ts a 0 (.agg zz6A) zz6 zz6 ?_)))))))))))))))))));intro v20 Y C;replace A:=Ar.cell A a C p c (by decide);replace d:=bP d a C (by decide);replace k:=bP k a C (by decide);have a:=Y;refine t 5 (bF) (ae (aa (aF (dm (aE (.tuple #[.agg zz6A,bF]) (iQ 4 5 (T:=42) (by kernel_rfl) (by kernel_rfl) (by kernel_rfl) (lr a 0)) ?_)))))
  have D:got E (Ky.mk 12 id 0)=[]:=jP r;rw[D,uA_nil,Bool.eq_false_iff.2 r];exact⟨rfl,_,A.rx,A.xm,A.cc⟩
theorem ft{b:Bool}(h:Rx B w X q E n)(a:0<=id/\id < 18446744073709551616)(hn:n+4<=4000000000000000000)(hm:E.length+4<=1000000)(hb:(Kv.look E (Ky.mk 12 id 0)).isSome=b):Calls Tryz.prog 49 #[pg q,.int .u64 id] w (RxE B w X q E (n+1) (.tuple #[.agg (uA (got E (Ky.mk 12 id 0))),.bool b])):=by
 subst hb;exact l7 h a hn hm
theorem rless(h:Rx B w X q E n)(g:0<=id/\id < 18446744073709551616)(hn:n+10<=4000000000000000000)(hm:E.length+10<=1000000):Calls Tryz.prog 16 #[pg q,.int .u64 id,.int .u64 y] w (RxF B w X q (gV E id y) n 10 (.bool (Kv.look E (Ky.mk 12 id 0)).isSome)):=by
 have A:=h.at
 refine aC (n:=25) Tryz.func16 rfl ?_
 refine ab (ag (t 6 (bF) (ae (aa (ab (ag (t 10 (pg q) (t 11 (iU id) ?_))))))));by_cases c1:(Kv.look E (Ky.mk 12 id 0)).isSome=true
 ·refine tc 12 49 #[pg q,iU id] (ft A.rx g (by omega) (by omega) c1) ?_
  rintro _ N ⟨rfl,L,S,i,d⟩;refine⟨_,rfl,?_⟩;replace A:=A.op S i d;refine t 9 (.tuple #[.agg (uA (got E (Ky.mk 12 id 0))),bT]) (t 13 (.agg (uA (got E (Ky.mk 12 id 0)))) (t 14 (bT) (ta 7 zz6 42 (pg) ?_)));intro v4 s a u B;obtain⟨o,b,A⟩:=A.al u B;refine ts a 0 (.agg (uA (got E (Ky.mk 12 id 0)))) (uL (got E (Ky.mk 12 id 0))) (uL (got E (Ky.mk 12 id 0))) ?_
  intro v6 Y C;replace A:=Ar.cell A a C o b (by decide);have a:=Y;refine t 8 (bT) (ae (aa (aG [(0,pg q),(1,iU id),(2,iU y),(6,bF),(7,pg s),(8,bT)] (ab (ab (ag (t 15 (bT) (ae (aa (aP (ab (ag (t 16 (iU y) (t 17 (pq s 5) (ts a 5 (iU y) [iU y] [iU (uX (got E (Ky.mk 12 id 0)) 0),iU (uX (got E (Ky.mk 12 id 0)) 1),iU (uX (got E (Ky.mk 12 id 0)) 2),iU (uX (got E (Ky.mk 12 id 0)) 3),iU (uX (got E (Ky.mk 12 id 0)) 4),iU y] ?_)))))))))))))));intro M Y C;replace A:=Ar.cell A a C o b (by decide);have a:=Y;refine ae (aa ?_);replace A:=A.drew;replace a:=a.drew;refine bI (fun H=>Blk H s [iU (uX (got E (Ky.mk 12 id 0)) 0),iU (uX (got E (Ky.mk 12 id 0)) 1),iU (uX (got E (Ky.mk 12 id 0)) 2),iU (uX (got E (Ky.mk 12 id 0)) 3),iU (uX (got E (Ky.mk 12 id 0)) 4),iU y] 42) (fun _=>false) a ?_
  refine z 0 18 (pg q) (z 1 19 (iU id) (zlr 3 21 [iU (uX (got E (Ky.mk 12 id 0)) 0),iU (uX (got E (Ky.mk 12 id 0)) 1),iU (uX (got E (Ky.mk 12 id 0)) 2),iU (uX (got E (Ky.mk 12 id 0)) 3),iU (uX (got E (Ky.mk 12 id 0)) 4),iU y] (fun _ h=>h) 0 (zc 2 20 9 #[iI 12,iU id,iU 0] (iA g (gR id)) ?_)));rintro _ v10 ⟨p,rfl,m,B⟩;replace A:=A.keep B;replace a:=a.keep B;refine⟨_,rfl,a,?_⟩;refine zc 4 22 42 #[.agg #[iU (uX (got E (Ky.mk 12 id 0)) 0),iU (uX (got E (Ky.mk 12 id 0)) 1),iU (uX (got E (Ky.mk 12 id 0)) 2),iU (uX (got E (Ky.mk 12 id 0)) 3),iU (uX (got E (Ky.mk 12 id 0)) 4),iU y]] (gO) ?_
  rintro _ v ⟨j,rfl,f,B⟩;replace A:=A.keep B;replace a:=a.keep B;replace m:=aA m B;refine⟨_,rfl,a,?_⟩;have G:=Pw.dt E (Ky.mk 12 id 0) (uv (uX (got E (Ky.mk 12 id 0)) 0) (uX (got E (Ky.mk 12 id 0)) 1) (uX (got E (Ky.mk 12 id 0)) 2) (uX (got E (Ky.mk 12 id 0)) 3) (uX (got E (Ky.mk 12 id 0)) 4) y);refine zc 5 23 8 #[pg q,p,j] (gJ A.rx m f (by omega) (by omega) (dN (gR id) (Nat.le_trans (qf ..) (by decide)))) ?_
  rintro _ F ⟨rfl,D,S,i,d⟩;obtain⟨a,b⟩:=au a b i d;replace m:=A.byu m d;replace f:=A.byu f d;replace A:=A.op S i d;refine⟨_,rfl,a,?_⟩;refine bB (aa (ab (ag (t 24 (bT) (t 6 (bT) (ae (aa (aF (aE (bT) (rs1 6 (by kernel_rfl) (by kernel_rfl)) ?_)))))))));rw[show gV E id y=_ from if_pos c1,show (Kv.look E (Ky.mk 12 id 0)).isSome=true from c1];exact⟨rfl,_,_,A.rx,by omega,A.xm,A.cc⟩
 ·refine tc 12 49 #[pg q,iU id] (ft A.rx g (by omega) (by omega) (Bool.eq_false_iff.2 c1)) ?_
  rintro _ K ⟨rfl,J,S,i,d⟩;refine⟨_,rfl,?_⟩;replace A:=A.op S i d;refine t 9 (.tuple #[.agg (uA (got E (Ky.mk 12 id 0))),bF]) (t 13 (.agg (uA (got E (Ky.mk 12 id 0)))) (t 14 (bF) (ta 7 zz6 42 (pg) ?_)));intro I r c k B;obtain⟨l,e,A⟩:=A.al k B;refine ts c 0 (.agg (uA (got E (Ky.mk 12 id 0)))) (uL (got E (Ky.mk 12 id 0))) (uL (got E (Ky.mk 12 id 0))) ?_
  intro x Y C;replace A:=Ar.cell A c C l e (by decide);have c:=Y;refine t 8 (bF) (ae (aa (aG [(0,pg q),(1,iU id),(2,iU y),(6,bF),(7,pg r),(8,bF)] (ab (ab (ag (t 15 (bF) (ae (aa (aW (aK (aa (ab (ag (t 24 (bF) (t 6 (bF) (ae (aa (aF (aE (bF) (rs1 6 (by kernel_rfl) (by kernel_rfl)) ?_))))))))))))))))))));rw[show gV E id y=_ from if_neg c1,show (Kv.look E (Ky.mk 12 id 0)).isSome=false from Bool.eq_false_iff.2 c1];exact⟨rfl,_,_,A.rx,by omega,A.xm,A.cc⟩
end
end Qu
end
section
namespace Qu
open Go.RowKit Go.Lib Pg Lim Gl Kv Bk Pw
attribute [local go_sem] Oper.semAt_some
set_option linter.unusedVariables false
set_option linter.unusedSimpArgs false
section
variable {w:World}{x0 x1 x2 x3 x4 x5 x6 id:Int}{a6 a7:Option Addr}{n6 c6 B q n:Nat}{v:Value}{l:List Int}{X:Nat->Prop}{E:ay}
theorem nq_nil(w:World)(K:Nat->Prop):Nq w K 0 none 0 0 0:=⟨.inl rfl,.inl rfl,fun w' _=>jW w'⟩
theorem mX_nil:(mX [] 0=0/\mX [] 1=0/\mX [] 2=0)/\(mX [] 3=0/\mX [] 4=0/\mX [] 5=0)/\mX [] 6=0:=by decide
theorem mA_nil(v:Value):mA [] v=#[.int .u64 0,.int .u64 0,.int .u64 0,.int .u64 0,.int .u64 0,.int .u64 0,v]:=by kernel_rfl
theorem pd(b:ef w a6 n6 c6 x6)(a:n6<=3000):Calls Tryz.prog 46 #[.agg #[.int .u64 x0,.int .u64 x1,.int .u64 x2,.int .u64 x3,.int .u64 x4,.int .u64 x5,.slice a6 n6 c6]] w fun e w'=>∃ v,e=.returned v/\ByU w' v (mv x0 x1 x2 x3 x4 x5 x6)/\Below w.heap.size w w':=by
 refine(Rc.yO b a).mono ?_
 rintro e w' ⟨v,rfl,M,B⟩;exact⟨v,rfl,wG M (zZ _ _ _ _ _ _ _),B⟩
theorem Cd(h:ByU w v l):Calls Tryz.prog 106 #[v] w fun e w'=>∃ a6 n6 c6,e=.returned (.tuple #[.agg (mA l (.slice a6 n6 c6)),.int .i64 (Rc.aV (Rc.bu l))])/\(Rc.dg w' w.heap.size a6 n6 c6 (mX l 6)/\n6<=510)/\Below w.heap.size w w':=by
 obtain⟨b,d,c,rfl,a⟩:=bya h.byt;exact Rc.rMove a
structure FndR(B:Nat)(w:World)(X:Nat->Prop)(q:Nat)(E:ay)(n:Nat)(L:List Int)(b:Bool)(e:Ending)(w':World):Prop where
 ex:∃ a6 n6 c6,e=.returned (.tuple #[.agg (mA L (.slice a6 n6 c6)),.bool b])/\∃ z6 X',Rx B w' X' q E n/\(∀ b,X' b->X b\/w.heap.size<=b)/\Chg X w w'/\Nq w' X' z6 a6 n6 c6 (mX L 6)/\n6<=510/\(n6=0\/w.heap.size<=z6)
theorem vD(h:Rx B w X q E n)(J:0<=id/\id < 18446744073709551616)(hn:n+4<=4000000000000000000)(hm:E.length+4<=1000000):Calls Tryz.prog 52 #[pg q,.int .u64 id] w (FndR B w X q E (n+1) (got E (Ky.mk 13 id 0)) (Kv.look E (Ky.mk 13 id 0)).isSome):=by
 have A:=h.at
 refine aC (n:=26) Tryz.func52 rfl ?_
 refine ab (ag (ta 4 zz7 48 (pg) ?_));intro v1 y a L B;obtain⟨G,i,A⟩:=A.al L B;refine t 5 (bF) (ae (aa (ab (ag (t 11 (pg q) (t 12 (iU id) (tc 13 9 #[iI 13,iU id,iU 0] (iA J (gP id)) ?_)))))));rintro _ v5 ⟨D,rfl,j,B⟩;refine⟨_,rfl,?_⟩;replace A:=A.keep B;replace a:=a.keep B;by_cases H:(Kv.look E (Ky.mk 13 id 0)).isSome=true
 ·refine tc 14 98 #[pg q,D] (lA A.rx j (Nat.le_trans (Ky.cL _ _ _) (by decide)) (by omega) (by omega) H) ?_
  rintro _ v10 ⟨l,rfl,I,K9,S,F,r⟩;refine⟨_,rfl,?_⟩;obtain⟨a,i⟩:=au a i F r;replace j:=A.byu j r;replace A:=A.op S F r;refine t 10 (.tuple #[l,bT]) (t 15 (l) (t 16 (bT) (t 6 (l) (t 7 (bT) (ae (aa (aG [(4,pg y),(5,bF),(6,l),(7,bT)] (ab (ab (ag (t 17 (bT) (t 18 (bF) (ae (aa (aW (aK (aa (ab (ag (t 21 (l) (tc 22 106 #[l] (Cd I) ?_)))))))))))))))))))));rintro _ Z ⟨d,c,e,rfl,⟨N,z⟩,B⟩;refine⟨_,rfl,?_⟩;have v:=a.lt;have O:=A.size;obtain⟨m,M,f⟩:=vr N (fun b hb=>A.rx.lt hb);clear N;replace A:=A.keep B;replace a:=a.keep B;replace j:=aA j B;replace I:=aA I B;clear I;refine t 20 (.tuple #[.agg (mA (got E (Ky.mk 13 id 0)) (.slice d c e)),iI (Rc.aV (Rc.bu (got E (Ky.mk 13 id 0))))]) (t 23 (.agg (mA (got E (Ky.mk 13 id 0)) (.slice d c e))) (t 24 (iI (Rc.aV (Rc.bu (got E (Ky.mk 13 id 0))))) ?_));have P:=a.lt;have K:=f.lt;refine ta 8 zz7 48 (pg) ?_
  intro R p g s B;obtain⟨u,o,A⟩:=A.al s B;replace a:=a.keep B;replace j:=aA j B;replace f:=f.keep B;refine ts g 0 (.agg (mA (got E (Ky.mk 13 id 0)) (.slice d c e))) (mL (got E (Ky.mk 13 id 0)) (.slice d c e)) (mL (got E (Ky.mk 13 id 0)) (.slice d c e)) ?_
  intro V Y C;replace A:=Ar.cell A g C u o (by decide);replace a:=a.chg C (show y≠p by omega);replace j:=bP j g C (by decide);replace f:=f.cell C (show c=0\/m≠p by omega);have g:=Y;refine t 9 (iI (Rc.aV (Rc.bu (got E (Ky.mk 13 id 0))))) (ae (aa (ab (ag (tlr 25 (mL (got E (Ky.mk 13 id 0)) (.slice d c e)) g 0 (ts a 0 (.agg (mA (got E (Ky.mk 13 id 0)) (.slice d c e))) (mL (got E (Ky.mk 13 id 0)) (.slice d c e)) (mL (got E (Ky.mk 13 id 0)) (.slice d c e)) ?_))))));intro W Y C;replace A:=Ar.cell A a C G i (by decide);replace j:=bP j a C (by decide);replace f:=f.cell C (show c=0\/m≠y by omega);replace g:=g.chg C (show p≠y by omega);have a:=Y;refine t 5 (bT) (ae (aa (aF (aE (.tuple #[.agg (mA (got E (Ky.mk 13 id 0)) (.slice d c e)),bT]) (iQ 4 5 (T:=48) (by kernel_rfl) (by kernel_rfl) (by kernel_rfl) (lr a 0)) ?_))));rw[H];exact⟨_,_,_,rfl,_,_,A.rx,A.xm,A.cc,f,z,by omega⟩
 ·refine tc 14 98 #[pg q,D] (lA A.rx j (Nat.le_trans (Ky.cL _ _ _) (by decide)) (by omega) (by omega) (Bool.eq_false_iff.2 H)) ?_
  rintro _ v20 ⟨k,rfl,x,ac,S,F,r⟩;refine⟨_,rfl,?_⟩;obtain⟨a,i⟩:=au a i F r;replace j:=A.byu j r;replace A:=A.op S F r;refine t 10 (.tuple #[k,bF]) (t 15 (k) (t 16 (bF) (t 6 (k) (t 7 (bF) (ae (aa (aG [(4,pg y),(5,bF),(6,k),(7,bF)] (ab (ab (ag (t 17 (bF) (t 18 (bT) (ae (aa (aP (ab (ag (t 19 (.agg zz7A) (ts a 0 (.agg zz7A) zz7 zz7 ?_)))))))))))))))))));intro U Y C;replace A:=Ar.cell A a C G i (by decide);replace j:=bP j a C (by decide);replace x:=bP x a C (by decide);have a:=Y;refine t 5 (bF) (ae (aa (aF (dm (aE (.tuple #[.agg zz7A,bF]) (iQ 4 5 (T:=48) (by kernel_rfl) (by kernel_rfl) (by kernel_rfl) (lr a 0)) ?_)))))
  have Q:got E (Ky.mk 13 id 0)=[]:=jP H;rw[Q,Bool.eq_false_iff.2 H];exact⟨_,_,_,(by rw[mA_nil];rfl),0,_,A.rx,A.xm,A.cc,(by rw[mX_nil.2.2];exact nq_nil _ _),by decide,.inl rfl⟩
theorem rmove{G:Nat}(h:Rx B w X q E n)(m:Oct (chn E))(p:0<=x0/\x0 < 18446744073709551616)(s:0<=x1/\x1 < 18446744073709551616)(o:0<=x4/\x4 < 18446744073709551616)(c:Nk w X G a6 n6 c6 x6)(C:n6<=3000)(hn:n+40<=4000000000000000000)(hm:E.length+40<=1000000):Calls Tryz.prog 14 #[pg q,.agg #[.int .u64 x0,.int .u64 x1,.int .u64 x2,.int .u64 x3,.int .u64 x4,.int .u64 x5,.slice a6 n6 c6]] w (RxE B w X q (pw (put (dD E) (Ky.mk 13 (aJ (chn E)) 0) (mv x0 x1 x2 x3 x4 x5 x6)) 13 (aJ (chn E)) x0 x1 x4) (n+7) (.int .u64 (aJ (chn E)))):=by
 have r:0<=aJ (chn E)/\aJ (chn E) < 18446744073709551616:=lN m;have A:=h.at
 refine aC (n:=24) Tryz.func14 rfl ?_
 have K:=c.lt;refine ab (ag (ta 3 [iU x0,iU x1,iU x2,iU x3,iU x4,iU x5,.slice a6 n6 c6] 48 (pg) ?_));intro v1 j a k B;have F:=Nat.le_trans A.size k;have b:=A.new k;replace c:=c.keep B;replace A:=A.keep B;refine t 4 (iU 0) (ae (aa (ab (ag (t 6 (pg q) ?_)))));have I:=sr E;refine tc 7 41 #[pg q] (EY A.rx (by omega) (by omega)) ?_
 rintro _ M ⟨rfl,J,S,e,d⟩;refine⟨_,rfl,?_⟩;replace c:=c.op e d;obtain⟨a,b⟩:=au a b e d;replace A:=A.op S e d;refine t 5 (iU (aJ (chn E))) (ae (aa (ab ?_)));replace c:=c.drew;replace A:=A.drew;replace a:=a.drew;refine bI (fun D=>Blk D j [iU x0,iU x1,iU x2,iU x3,iU x4,iU x5,.slice a6 n6 c6] 48) (fun _=>false) a ?_
 refine z 0 8 (pg q) (z 1 9 (iU (aJ (chn E))) (zlr 3 11 [iU x0,iU x1,iU x2,iU x3,iU x4,iU x5,.slice a6 n6 c6] (fun _ h=>h) 0 (zc 2 10 9 #[iI 13,iU (aJ (chn E)),iU 0] (iA r (gP (aJ (chn E)))) ?_)));rintro _ L ⟨l,rfl,f,B⟩;replace c:=c.keep B;replace A:=A.keep B;replace a:=a.keep B;refine⟨_,rfl,a,?_⟩;refine zc 4 12 46 #[.agg #[iU x0,iU x1,iU x2,iU x3,iU x4,iU x5,.slice a6 n6 c6]] (pd c.nat C) ?_
 rintro _ v11 ⟨i,rfl,g,B⟩;replace c:=c.keep B;replace A:=A.keep B;replace a:=a.keep B;replace f:=aA f B;refine⟨_,rfl,a,?_⟩;have H:=Pw.dt (dD E) (Ky.mk 13 (aJ (chn E)) 0) (mv x0 x1 x2 x3 x4 x5 x6);refine zc 5 13 8 #[pg q,l,i] (gJ A.rx f g (by omega) (by omega) (dN (gP (aJ (chn E))) (Nat.le_trans (qE _ _ _ _ _ _ _) (by decide)))) ?_
 rintro _ x ⟨rfl,u,S,e,d⟩;replace c:=c.op e d;obtain⟨a,b⟩:=au a b e d;replace f:=A.byu f d;replace g:=A.byu g d;replace A:=A.op S e d;refine⟨_,rfl,a,?_⟩;refine bB (aa (aG [(0,pg q),(3,pg j),(4,iU 0),(5,iU (aJ (chn E)))] (ab (ag (t 14 (pg q) (t 15 (iU (aJ (chn E))) (t 16 (pg j) (tl 17 (iU x0) a 0 (t 18 (pq j 1) (tl 19 (iU x1) a 1 (t 20 (pq j 4) (tl 21 (iU x4) a 4 (tc 22 43 #[pg q,iI 13,iU (aJ (chn E)),iU x0,iU x1,iU x4] (BM A.rx ⟨by decide,by decide⟩ p s o (by omega) (by omega)) ?_)))))))))))));rintro _ v ⟨rfl,y,S,e,d⟩;refine⟨_,rfl,?_⟩;replace c:=c.op e d;obtain⟨a,b⟩:=au a b e d;replace f:=A.byu f d;replace g:=A.byu g d;replace A:=A.op S e d;refine ae (aa (ab (ag (t 23 (iU (aJ (chn E))) (t 4 (iU (aJ (chn E))) (ae (aa (aF (aE (iU (aJ (chn E))) (rs1 4 (by kernel_rfl) (by kernel_rfl)) ?_)))))))));exact⟨rfl,_,A.rx,A.xm,A.cc⟩
theorem jX{b:Bool}(h:Rx B w X q E n)(a:0<=id/\id < 18446744073709551616)(hn:n+4<=4000000000000000000)(hm:E.length+4<=1000000)(hb:(Kv.look E (Ky.mk 13 id 0)).isSome=b):Calls Tryz.prog 52 #[pg q,.int .u64 id] w (FndR B w X q E (n+1) (got E (Ky.mk 13 id 0)) b):=by
 subst hb;exact vD h a hn hm
theorem rfewer{y:Int}{m x z7:Nat}(h:Rx B w X q E n)(J:0<=id/\id < 18446744073709551616)(d:Nk w X z7 a7 m x y)(m7:m<=3000)(hn:n+10<=4000000000000000000)(hm:E.length+10<=1000000):Calls Tryz.prog 18 #[pg q,.int .u64 id,.agg #[.slice a7 m x]] w (RxF B w X q (nA E id y) n 10 (.bool (Kv.look E (Ky.mk 13 id 0)).isSome)):=by
 have l0:=d.lt;have A:=h.at
 refine aC (n:=25) Tryz.func18 rfl ?_
 refine ab (ag ?_);have U:=d.lt;refine ta 5 [.slice a7 m x] 46 (pg) ?_
 intro v1 R a V B;have zg2:=Nat.le_trans A.size V;have f:=A.new V;replace d:=d.keep B;replace A:=A.keep B;refine t 6 (bF) (ae (aa (ab (ag (t 10 (pg q) (t 11 (iU id) ?_))))));by_cases K:(Kv.look E (Ky.mk 13 id 0)).isSome=true
 ·refine tc 12 52 #[pg q,iU id] (jX A.rx J (by omega) (by omega) K) ?_
  rintro _ v6 ⟨r,k,s,rfl,P,K4,S,p,l,c,mr5,hzr5⟩;refine⟨_,rfl,?_⟩;have ac:=a.lt;have sr5:=A.size;replace d:=d.op p l;obtain⟨a,f⟩:=au a f p l;replace A:=A.op S p l;refine t 9 (.tuple #[.agg (mA (got E (Ky.mk 13 id 0)) (.slice r k s)),bT]) (t 13 (.agg (mA (got E (Ky.mk 13 id 0)) (.slice r k s))) (t 14 (bT) ?_));have U:=d.lt;have T:=a.lt;have lQr5:=c.lt;refine ta 7 zz7 48 (pg) ?_
  intro v7 F b Z B;have Q:=Nat.le_trans A.size Z;have o:=A.new Z;replace d:=d.keep B;replace A:=A.keep B;replace a:=a.keep B;replace c:=c.keep B;refine ts b 0 (.agg (mA (got E (Ky.mk 13 id 0)) (.slice r k s))) (mL (got E (Ky.mk 13 id 0)) (.slice r k s)) (mL (got E (Ky.mk 13 id 0)) (.slice r k s)) ?_
  intro v9 Y C;replace d:=d.cell C (show m=0\/z7≠F by omega);replace A:=Ar.cell A b C Q o (by decide);replace a:=a.chg C (show R≠F by omega);replace c:=c.cell C (show k=0\/P≠F by omega);have b:=Y;refine t 8 (bT) (ae (aa (aG [(0,pg q),(1,iU id),(5,pg R),(6,bF),(7,pg F),(8,bT)] (ab (ab (ag (t 15 (bT) (ae (aa (aP (ab (ag (tlr 16 [.slice a7 m x] a 0 (t 17 (pq F 6) (ts b 6 (.agg #[.slice a7 m x]) [.slice a7 m x] (mL (got E (Ky.mk 13 id 0)) (.slice a7 m x)) ?_)))))))))))))));intro v10 Y C;replace d:=d.cell C (show m=0\/z7≠F by omega);replace A:=Ar.cell A b C Q o (by decide);replace a:=a.chg C (show R≠F by omega);replace c:=c.cell C (show k=0\/P≠F by omega);have b:=Y;refine ae (aa ?_);replace d:=d.drew;replace A:=A.drew;replace a:=a.drew;replace c:=c.drew;replace b:=b.drew;refine bI (fun w'=>Blk w' F (mL (got E (Ky.mk 13 id 0)) (.slice a7 m x)) 48) (fun _=>false) b ?_
  refine z 0 18 (pg q) (z 1 19 (iU id) (zlr 3 21 (mL (got E (Ky.mk 13 id 0)) (.slice a7 m x)) (fun _ h=>h) 0 (zc 2 20 9 #[iI 13,iU id,iU 0] (iA J (gP id)) ?_)));rintro _ v13 ⟨N,rfl,v,B⟩;replace d:=d.keep B;replace A:=A.keep B;replace a:=a.keep B;replace c:=c.keep B;replace b:=b.keep B;refine⟨_,rfl,b,?_⟩;refine zc 4 22 46 #[.agg (mA (got E (Ky.mk 13 id 0)) (.slice a7 m x))] (pd d.nat m7) ?_
  rintro _ v16 ⟨M,rfl,I,B⟩;replace d:=d.keep B;replace A:=A.keep B;replace a:=a.keep B;replace c:=c.keep B;replace b:=b.keep B;replace v:=aA v B;refine⟨_,rfl,b,?_⟩;have L18:=Pw.dt E (Ky.mk 13 id 0) (mv (mX (got E (Ky.mk 13 id 0)) 0) (mX (got E (Ky.mk 13 id 0)) 1) (mX (got E (Ky.mk 13 id 0)) 2) (mX (got E (Ky.mk 13 id 0)) 3) (mX (got E (Ky.mk 13 id 0)) 4) (mX (got E (Ky.mk 13 id 0)) 5) y);refine zc 5 23 8 #[pg q,N,M] (gJ A.rx v I (by omega) (by omega) (dN (gP id) (Nat.le_trans (qE _ _ _ _ _ _ _) (by decide)))) ?_
  rintro _ v19 ⟨rfl,K17,S,p,l⟩;replace d:=d.op p l;replace c:=c.op p l;obtain⟨a,f⟩:=au a f p l;obtain⟨b,o⟩:=au b o p l;replace v:=A.byu v l;replace I:=A.byu I l;replace A:=A.op S p l;refine⟨_,rfl,b,?_⟩;refine bB (aa (ab (ag (t 24 (bT) (t 6 (bT) (ae (aa (aF (aE (bT) (rs1 6 (by kernel_rfl) (by kernel_rfl)) ?_)))))))));rw[show nA E id y=_ from if_pos K,show (Kv.look E (Ky.mk 13 id 0)).isSome=true from K];exact⟨rfl,_,_,A.rx,by omega,A.xm,A.cc⟩
 ·refine tc 12 52 #[pg q,iU id] (jX A.rx J (by omega) (by omega) (Bool.eq_false_iff.2 K)) ?_
  rintro _ v22 ⟨j,e,i,rfl,L,K20,S,p,l,g,mr21,hzr21⟩;refine⟨_,rfl,?_⟩;have O:=a.lt;have sr21:=A.size;replace d:=d.op p l;obtain⟨a,f⟩:=au a f p l;replace A:=A.op S p l;refine t 9 (.tuple #[.agg (mA (got E (Ky.mk 13 id 0)) (.slice j e i)),bF]) (t 13 (.agg (mA (got E (Ky.mk 13 id 0)) (.slice j e i))) (t 14 (bF) ?_));have U:=d.lt;have T:=a.lt;have lQr21:=g.lt;refine ta 7 zz7 48 (pg) ?_
  intro v23 D u G B;have W:=Nat.le_trans A.size G;have H:=A.new G;replace d:=d.keep B;replace A:=A.keep B;replace a:=a.keep B;replace g:=g.keep B;refine ts u 0 (.agg (mA (got E (Ky.mk 13 id 0)) (.slice j e i))) (mL (got E (Ky.mk 13 id 0)) (.slice j e i)) (mL (got E (Ky.mk 13 id 0)) (.slice j e i)) ?_
  intro v25 Y C;replace d:=d.cell C (show m=0\/z7≠D by omega);replace A:=Ar.cell A u C W H (by decide);replace a:=a.chg C (show R≠D by omega);replace g:=g.cell C (show e=0\/L≠D by omega);have u:=Y;refine t 8 (bF) (ae (aa (aG [(0,pg q),(1,iU id),(5,pg R),(6,bF),(7,pg D),(8,bF)] (ab (ab (ag (t 15 (bF) (ae (aa (aW (aK (aa (ab (ag (t 24 (bF) (t 6 (bF) (ae (aa (aF (aE (bF) (rs1 6 (by kernel_rfl) (by kernel_rfl)) ?_))))))))))))))))))));rw[show nA E id y=_ from if_neg K,show (Kv.look E (Ky.mk 13 id 0)).isSome=false from Bool.eq_false_iff.2 K];exact⟨rfl,_,_,A.rx,by omega,A.xm,A.cc⟩
end
end Qu
end
section
namespace Qu
open Go.RowKit Go.Lib Pg Lim Gl Kv Bk Pw
attribute [local go_sem] Oper.semAt_some
set_option linter.unusedVariables false
set_option linter.unusedSimpArgs false
def lx (E:ay) (k id a b d:Int):ay :=
 let E1:=rem (rem (rem E (Ky.mk k id 0)) (Ky.mk 14 d id)) (Ky.mk 15 b id)
 if dq E1 a b<=1 then rem E1 (Ky.mk 17 a b) else put E1 (Ky.mk 17 a b) (nv ((dq E1 a b - 1) % 18446744073709551616))
def cQ (E:ay) (id k:Int):ay:=if k=12 then (if (Kv.look E (Ky.mk 12 id 0)).isSome=true then lx E k id (uX (got E (Ky.mk 12 id 0)) 0) (uX (got E (Ky.mk 12 id 0)) 1) (uX (got E (Ky.mk 12 id 0)) 3) else E) else if k=13 then (if (Kv.look E (Ky.mk 13 id 0)).isSome=true then lx E k id (mX (got E (Ky.mk 13 id 0)) 0) (mX (got E (Ky.mk 13 id 0)) 1) (mX (got E (Ky.mk 13 id 0)) 4) else E) else E
theorem Eh {B:Nat} {w:World} {X:Nat->Prop} {q:Nat} {E:ay} {n:Nat} {id k:Int} (h:Rx B w X q E n) (M:0<=id/\id < 18446744073709551616) (K:∀ k,Oct (got E k)) (hn:n+20<=4000000000000000000) (hm:E.length+20<=1000000):Calls Tryz.prog 20 #[pg q,.agg #[.int .u64 id,.int .i64 k]] w (RxF B w X q (cQ E id k) n 10 (.bool (cO E id k))):=by
 have A:=h.at
 refine aC (n:=86) Tryz.func20 rfl ?_
 refine ab (ag (ta 3 [iU id,iI k] 61 (pg) ?_));intro v1 u a hg2 B;obtain⟨zg2,b,A⟩:=A.al hg2 B;clear B;refine t 4 (bF) (ae (aa (ab (ag (t 5 (iU 0) (t 6 (iU 0) (t 7 (iU 0) (ae (aa ?_)))))))));refine gm (fun(s:Int × Int × Int)=>[(0,pg q),(3,pg u),(4,bF),(5,iU s.1),(6,iU s.2.1),(7,iU s.2.2)]) (fun s w'=>((0<=s.1/\s.1 < 18446744073709551616)/\(0<=s.2.1/\s.2.1 < 18446744073709551616)/\0<=s.2.2/\s.2.2 < 18446744073709551616)/\Ky.mkE k id 0=false/\cO E id k=true/\cQ E id k=lx E k id s.1 s.2.1 s.2.2/\Blk w' u [iU id,iI k] 61/\∃ X' n',Ar B w X w' X' q E n'/\n'<=n+2/\¬ X' u) ?_ ?_
 ·refine ab (ag (t 14 (pq u 1) (tl 15 (iI k) a 1 (ae (aa (bj (ab (ag ?_))))))));by_cases J:(k:Int)=12
  ·refine tq 17 (.bool ((k:Int) == 12)) (bT) (congrArg Value.bool (beq_iff_eq.2 J)) (t 16 (bT) (ae (aa (aP (ab (ag (t 19 (pg q) (t 20 (pg u) (tl 21 (iU id) a 0 ?_)))))))));by_cases c4:(Kv.look E (Ky.mk 12 id 0)).isSome=true
   ·refine tc 22 49 #[pg q,iU id] (ft A.rx M (by omega) (by omega) c4) ?_
    rintro _ v6 ⟨rfl,K5,S,e,d⟩;refine⟨_,rfl,?_⟩;obtain⟨a,b⟩:=au a b e d;replace A:=A.op S e d;refine t 18 (.tuple #[.agg (uA (got E (Ky.mk 12 id 0))),bT]) (t 23 (.agg (uA (got E (Ky.mk 12 id 0)))) (t 24 (bT) ?_));have O:=a.lt;refine ta 8 zz6 42 (pg) ?_
    intro v7 g8 G hg8 B;obtain⟨zg8,nXg8,A⟩:=A.al hg8 B;replace a:=a.keep B;clear B;refine ts G 0 (.agg (uA (got E (Ky.mk 12 id 0)))) (uL (got E (Ky.mk 12 id 0))) (uL (got E (Ky.mk 12 id 0))) ?_
    intro v9 Y C;replace A:=Ar.cell A G C zg8 nXg8 (by decide);replace a:=a.chg C (show u≠g8 by omega);have G:=Y;refine t 9 (bT) (ae (aa (aG [(0,pg q),(3,pg u),(4,bF),(5,iU 0),(6,iU 0),(7,iU 0),(8,pg g8),(9,bT)] (ab (ab (ag (t 25 (bT) (t 26 (bF) (ae (aa (aW (aK (aa ?_)))))))))))));replace A:=A.drew;replace a:=a.drew;replace G:=G.drew;refine bI (fun w'=>Blk w' g8 (uL (got E (Ky.mk 12 id 0))) 42) (fun _=>false) G ?_
    refine z 0 27 (pg g8) (zl 1 28 (iU (uX (got E (Ky.mk 12 id 0)) 0)) (fun _ h=>h) 0 (z 2 29 (pq g8 1) (zl 3 30 (iU (uX (got E (Ky.mk 12 id 0)) 1)) (fun _ h=>h) 1 (z 4 31 (pq g8 3) (zl 5 32 (iU (uX (got E (Ky.mk 12 id 0)) 3)) (fun _ h=>h) 3 (z 6 5 (iU (uX (got E (Ky.mk 12 id 0)) 0)) (z 7 6 (iU (uX (got E (Ky.mk 12 id 0)) 1)) (z 8 7 (iU (uX (got E (Ky.mk 12 id 0)) 3)) (bB (dk ?_))))))))))
    have e1:cQ E id k=lx E k id (uX (got E (Ky.mk 12 id 0)) 0) (uX (got E (Ky.mk 12 id 0)) 1) (uX (got E (Ky.mk 12 id 0)) 3):=by unfold cQ;rw[if_pos J,if_pos c4]
    have e2:cO E id k=true:=by unfold cO;rw[if_pos J];exact c4
    exact bZ ((uX (got E (Ky.mk 12 id 0)) 0,uX (got E (Ky.mk 12 id 0)) 1,uX (got E (Ky.mk 12 id 0)) 3):Int × Int × Int) ⟨⟨(eM (K _) 0),(eM (K _) 1),(eM (K _) 3)⟩,by rw[J];exact gR id,e2,e1,a,_,_,A,by omega,b⟩ (by kernel_rfl)
   ·refine tc 22 49 #[pg q,iU id] (ft A.rx M (by omega) (by omega) (Bool.eq_false_iff.2 c4)) ?_
    rintro _ v11 ⟨rfl,K10,S,e,d⟩;refine⟨_,rfl,?_⟩;obtain⟨a,b⟩:=au a b e d;replace A:=A.op S e d;refine t 18 (.tuple #[.agg (uA (got E (Ky.mk 12 id 0))),bF]) (t 23 (.agg (uA (got E (Ky.mk 12 id 0)))) (t 24 (bF) ?_));have O:=a.lt;refine ta 8 zz6 42 (pg) ?_
    intro v12 g13 L hg13 B;obtain⟨zg13,Z,A⟩:=A.al hg13 B;replace a:=a.keep B;clear B;refine ts L 0 (.agg (uA (got E (Ky.mk 12 id 0)))) (uL (got E (Ky.mk 12 id 0))) (uL (got E (Ky.mk 12 id 0))) ?_
    intro v14 Y C;replace A:=Ar.cell A L C zg13 Z (by decide);replace a:=a.chg C (show u≠g13 by omega);have L:=Y;refine t 9 (bF) (ae (aa (aG [(0,pg q),(3,pg u),(4,bF),(5,iU 0),(6,iU 0),(7,iU 0),(8,pg g13),(9,bF)] (ab (ab (ag (t 25 (bF) (t 26 (bT) (ae (aa (aP (ab (ag (t 4 (bF) (ae (aa (aF (dm (jB (dm (aE (bF) (rs1 4 (by kernel_rfl) (by kernel_rfl)) ?_)))))))))))))))))))))
    have e1:cQ E id k=E:=by unfold cQ;rw[if_pos J,if_neg c4]
    have e2:cO E id k=false:=by unfold cO;rw[if_pos J,Bool.eq_false_iff.2 c4]
    rw[e1,e2];exact⟨rfl,_,_,A.rx,by omega,A.xm,A.cc⟩
  ·refine tq 17 (.bool ((k:Int) == 12)) (bF) (congrArg Value.bool (beq_eq_false_iff_ne.2 J)) (t 16 (bF) (ae (aa (aW (ab (ag ?_))))));by_cases x:(k:Int)=13
   ·refine tq 34 (.bool ((k:Int) == 13)) (bT) (congrArg Value.bool (beq_iff_eq.2 x)) (t 33 (bT) (ae (aa (aG [(0,pg q),(3,pg u),(4,bF),(5,iU 0),(6,iU 0),(7,iU 0),(33,bT)] (aP (ab (ag (t 36 (pg q) (t 37 (pg u) (tl 38 (iU id) a 0 ?_))))))))));by_cases I:(Kv.look E (Ky.mk 13 id 0)).isSome=true
    ·refine tc 39 52 #[pg q,iU id] (jX A.rx M (by omega) (by omega) I) ?_
     rintro _ v19 ⟨r,i,v,rfl,zr18,K17,S,e,d,j,mr18,hzr18⟩;refine⟨_,rfl,?_⟩;have kXg2r18:=a.lt;have sr18:=A.size;obtain⟨a,b⟩:=au a b e d;replace A:=A.op S e d;refine t 35 (.tuple #[.agg (mA (got E (Ky.mk 13 id 0)) (.slice r i v)),bT]) (t 40 (.agg (mA (got E (Ky.mk 13 id 0)) (.slice r i v))) (t 41 (bT) ?_));have O:=a.lt;have lQr18:=j.lt;refine ta 10 zz7 48 (pg) ?_
     intro v20 H o hg21 B;obtain⟨zg21,ad,A⟩:=A.al hg21 B;replace a:=a.keep B;replace j:=j.keep B;clear B;refine ts o 0 (.agg (mA (got E (Ky.mk 13 id 0)) (.slice r i v))) (mL (got E (Ky.mk 13 id 0)) (.slice r i v)) (mL (got E (Ky.mk 13 id 0)) (.slice r i v)) ?_
     intro v22 Y C;replace A:=Ar.cell A o C zg21 ad (by decide);replace a:=a.chg C (show u≠H by omega);replace j:=j.cell C (show i=0\/zr18≠H by omega);have o:=Y;refine t 11 (bT) (ae (aa (ab (ab (ag (t 42 (bT) (t 43 (bF) (ae (aa (aW (aK (aa ?_))))))))))));replace A:=A.drew;replace a:=a.drew;replace j:=j.drew;replace o:=o.drew;refine bI (fun w'=>Blk w' H (mL (got E (Ky.mk 13 id 0)) (.slice r i v)) 48) (fun _=>false) o ?_
     refine z 0 44 (pg H) (zl 1 45 (iU (mX (got E (Ky.mk 13 id 0)) 0)) (fun _ h=>h) 0 (z 2 46 (pq H 1) (zl 3 47 (iU (mX (got E (Ky.mk 13 id 0)) 1)) (fun _ h=>h) 1 (z 4 48 (pq H 4) (zl 5 49 (iU (mX (got E (Ky.mk 13 id 0)) 4)) (fun _ h=>h) 4 (z 6 5 (iU (mX (got E (Ky.mk 13 id 0)) 0)) (z 7 6 (iU (mX (got E (Ky.mk 13 id 0)) 1)) (z 8 7 (iU (mX (got E (Ky.mk 13 id 0)) 4)) (bB (dk ?_))))))))))
     have e1:cQ E id k=lx E k id (mX (got E (Ky.mk 13 id 0)) 0) (mX (got E (Ky.mk 13 id 0)) 1) (mX (got E (Ky.mk 13 id 0)) 4):=by unfold cQ;rw[if_neg J,if_pos x,if_pos I]
     have e2:cO E id k=true:=by unfold cO;rw[if_neg J,if_pos x];exact I
     exact bZ ((mX (got E (Ky.mk 13 id 0)) 0,mX (got E (Ky.mk 13 id 0)) 1,mX (got E (Ky.mk 13 id 0)) 4):Int × Int × Int) ⟨⟨(dY (K _) 0),(dY (K _) 1),(dY (K _) 4)⟩,by rw[x];exact gP id,e2,e1,a,_,_,A,by omega,b⟩ (by kernel_rfl)
    ·refine tc 39 52 #[pg q,iU id] (jX A.rx M (by omega) (by omega) (Bool.eq_false_iff.2 I)) ?_
     rintro _ v25 ⟨F,p,D,rfl,zr24,K23,S,e,d,y,mr24,hzr24⟩;refine⟨_,rfl,?_⟩;have kXg2r24:=a.lt;have sr24:=A.size;obtain⟨a,b⟩:=au a b e d;replace A:=A.op S e d;refine t 35 (.tuple #[.agg (mA (got E (Ky.mk 13 id 0)) (.slice F p D)),bF]) (t 40 (.agg (mA (got E (Ky.mk 13 id 0)) (.slice F p D))) (t 41 (bF) ?_));have O:=a.lt;have lQr24:=y.lt;refine ta 10 zz7 48 (pg) ?_
     intro v26 V N hg27 B;obtain⟨zg27,U,A⟩:=A.al hg27 B;replace a:=a.keep B;replace y:=y.keep B;clear B;refine ts N 0 (.agg (mA (got E (Ky.mk 13 id 0)) (.slice F p D))) (mL (got E (Ky.mk 13 id 0)) (.slice F p D)) (mL (got E (Ky.mk 13 id 0)) (.slice F p D)) ?_
     intro v28 Y C;replace A:=Ar.cell A N C zg27 U (by decide);replace a:=a.chg C (show u≠V by omega);replace y:=y.cell C (show p=0\/zr24≠V by omega);have N:=Y;refine t 11 (bF) (ae (aa (ab (ab (ag (t 42 (bF) (t 43 (bT) (ae (aa (aP (ab (ag (t 4 (bF) (ae (aa (aG [(0,pg q),(3,pg u),(4,bF),(5,iU 0),(6,iU 0),(7,iU 0),(10,pg V)] (aF (dm (jB (dm (aE (bF) (rs1 4 (by kernel_rfl) (by kernel_rfl)) ?_)))))))))))))))))))))
     have e1:cQ E id k=E:=by unfold cQ;rw[if_neg J,if_pos x,if_neg I]
     have e2:cO E id k=false:=by unfold cO;rw[if_neg J,if_pos x,Bool.eq_false_iff.2 I]
     rw[e1,e2];exact⟨rfl,_,_,A.rx,by omega,A.xm,A.cc⟩
   ·refine tq 34 (.bool ((k:Int) == 13)) (bF) (congrArg Value.bool (beq_eq_false_iff_ne.2 x)) (t 33 (bF) (ae (aa (aG [(0,pg q),(3,pg u),(4,bF),(5,iU 0),(6,iU 0),(7,iU 0),(33,bF)] (aW (ab (ag (t 4 (bF) (ae (aa (aF (jB (dm (aE (bF) (rs1 4 (by kernel_rfl) (by kernel_rfl)) ?_))))))))))))))
    have e1:cQ E id k=E:=by unfold cQ;rw[if_neg J,if_neg x]
    have e2:cO E id k=false:=by unfold cO;rw[if_neg J,if_neg x]
    rw[e1,e2];exact⟨rfl,_,_,A.rx,by omega,A.xm,A.cc⟩
 clear A;clear a b;rintro⟨m,c,l⟩ v29 ⟨⟨hxa,hxb,hxd⟩,hEk,hdb,ac,a,X1,n1,A,hn1,b⟩;dsimp only at hxa hxb hxd ac;refine ab (ag (t 50 (pg q) (t 51 (pq u 1) (tl 52 (iI k) a 1 (t 53 (pg u) (tl 54 (iU id) a 0 (tc 55 9 #[iI k,iU id,iU 0] (iA M hEk) ?_)))))));rintro _ v32 ⟨kv31,rfl,T,B⟩;refine⟨_,rfl,?_⟩;replace A:=A.keep B;replace a:=a.keep B;clear B;have L34:=Pw.gk E (Ky.mk k id 0);refine tc 56 55 #[pg q,kv31] (vz A.rx T (Nat.le_trans (Ky.cL _ _ _) (by decide)) (by omega) (by omega)) ?_
 rintro _ v35 ⟨rfl,K33,S,e,d⟩;refine⟨_,rfl,?_⟩;obtain⟨a,b⟩:=au a b e d;replace T:=A.byu T d;replace A:=A.op S e d;clear T;refine ae (aa (ab (ag (t 57 (pg q) (t 58 (iU l) (t 59 (pg u) (tl 60 (iU id) a 0 (tc 61 9 #[iI 14,iU l,iU id] (iA hxd (kZ l id)) ?_))))))));rintro _ v38 ⟨kv37,rfl,R,B⟩;refine⟨_,rfl,?_⟩;replace A:=A.keep B;replace a:=a.keep B;clear B;have L40:=Pw.gk (rem E (Ky.mk k id 0)) (Ky.mk 14 l id);refine tc 62 55 #[pg q,kv37] (vz A.rx R (Nat.le_trans (Ky.cL _ _ _) (by decide)) (by omega) (by omega)) ?_
 rintro _ v41 ⟨rfl,K39,S,e,d⟩;refine⟨_,rfl,?_⟩;obtain⟨a,b⟩:=au a b e d;replace R:=A.byu R d;replace A:=A.op S e d;clear R;refine ae (aa (aG [(0,pg q),(3,pg u),(4,bF),(5,iU m),(6,iU c)] (ab (ag (t 63 (pg q) (t 64 (iU c) (t 65 (pg u) (tl 66 (iU id) a 0 (tc 67 9 #[iI 15,iU c,iU id] (iA hxb (ly c id)) ?_)))))))));rintro _ v44 ⟨kv43,rfl,P,B⟩;refine⟨_,rfl,?_⟩;replace A:=A.keep B;replace a:=a.keep B;clear B;have L46:=Pw.gk (rem (rem E (Ky.mk k id 0)) (Ky.mk 14 l id)) (Ky.mk 15 c id);refine tc 68 55 #[pg q,kv43] (vz A.rx P (Nat.le_trans (Ky.cL _ _ _) (by decide)) (by omega) (by omega)) ?_
 rintro _ v47 ⟨rfl,K45,S,e,d⟩;refine⟨_,rfl,?_⟩;obtain⟨a,b⟩:=au a b e d;replace P:=A.byu P d;replace A:=A.op S e d;clear P;refine ae (aa (ab (ag (t 69 (iU m) (t 70 (iU c) (tc 71 9 #[iI 17,iU m,iU c] (iA hxa (jT m c)) ?_))))));rintro _ v50 ⟨f,rfl,g,B⟩;refine⟨_,rfl,?_⟩;replace A:=A.keep B;replace a:=a.keep B;clear B;refine t 12 (f) (ae (aa (ab (ag (t 72 (pg q) (t 73 (f) (tc 74 56 #[pg q,f] (pA A.rx g (Nat.le_trans (Ky.cL _ _ _) (by decide)) (by omega) (by omega)) ?_)))))));rintro _ v52 ⟨rfl,K51,S,e,d⟩;refine⟨_,rfl,?_⟩;obtain⟨a,b⟩:=au a b e d;replace g:=A.byu g d;replace A:=A.op S e d;refine t 13 (iU (bE (got (rem (rem (rem E (Ky.mk k id 0)) (Ky.mk 14 l id)) (Ky.mk 15 c id)) (Ky.mk 17 m c)))) (ae (aa (aG [(0,pg q),(4,bF),(12,f),(13,iU (bE (got (rem (rem (rem E (Ky.mk k id 0)) (Ky.mk 14 l id)) (Ky.mk 15 c id)) (Ky.mk 17 m c))))] (ab (ab (ag (t 75 (iU (bE (got (rem (rem (rem E (Ky.mk k id 0)) (Ky.mk 14 l id)) (Ky.mk 15 c id)) (Ky.mk 17 m c)))) ?_)))))));by_cases Q:(bE (got (rem (rem (rem E (Ky.mk k id 0)) (Ky.mk 14 l id)) (Ky.mk 15 c id)) (Ky.mk 17 m c)):Int)<=1
 ·refine tq 76 (.bool (decide ((bE (got (rem (rem (rem E (Ky.mk k id 0)) (Ky.mk 14 l id)) (Ky.mk 15 c id)) (Ky.mk 17 m c)):Int)<=1))) (bT) (congrArg Value.bool (decide_eq_true Q)) (ae (aa (aP (ag (t 77 (pg q) (t 78 (f) ?_))))));have L55:=Pw.gk (rem (rem (rem E (Ky.mk k id 0)) (Ky.mk 14 l id)) (Ky.mk 15 c id)) (Ky.mk 17 m c);refine tc 79 55 #[pg q,f] (vz A.rx g (Nat.le_trans (Ky.cL _ _ _) (by decide)) (by omega) (by omega)) ?_
  rintro _ v56 ⟨rfl,K54,S,e,d⟩;refine⟨_,rfl,?_⟩;obtain⟨a,b⟩:=au a b e d;replace g:=A.byu g d;replace A:=A.op S e d;clear g;refine ae (aa (ab (ag (t 4 (bT) (ae (aa (aF (aE (bT) (rs1 4 (by kernel_rfl) (by kernel_rfl)) ?_))))))))
  have e1:cQ E id k=rem (rem (rem (rem E (Ky.mk k id 0)) (Ky.mk 14 l id)) (Ky.mk 15 c id)) (Ky.mk 17 m c):=ac.trans (by unfold lx;exact if_pos Q);rw[e1,hdb];exact⟨rfl,_,_,A.rx,by omega,A.xm,A.cc⟩
 ·refine tq 76 (.bool (decide ((bE (got (rem (rem (rem E (Ky.mk k id 0)) (Ky.mk 14 l id)) (Ky.mk 15 c id)) (Ky.mk 17 m c)):Int)<=1))) (bF) (congrArg Value.bool (decide_eq_false Q)) (ae (aa (aW (ag (t 80 (pg q) (t 81 (f) (t 82 (iU (bE (got (rem (rem (rem E (Ky.mk k id 0)) (Ky.mk 14 l id)) (Ky.mk 15 c id)) (Ky.mk 17 m c)))) (tq 83 (iU (IntKind.u64.wrap (bE (got (rem (rem (rem E (Ky.mk k id 0)) (Ky.mk 14 l id)) (Ky.mk 15 c id)) (Ky.mk 17 m c)) - 1))) (iU ((bE (got (rem (rem (rem E (Ky.mk k id 0)) (Ky.mk 14 l id)) (Ky.mk 15 c id)) (Ky.mk 17 m c)) - 1) % 18446744073709551616)) (congrArg (Value.int .u64) (IntKind.wrap_u64 _)) (tc 84 57 #[iU ((bE (got (rem (rem (rem E (Ky.mk k id 0)) (Ky.mk 14 l id)) (Ky.mk 15 c id)) (Ky.mk 17 m c)) - 1) % 18446744073709551616)] (fl) ?_)))))))));rintro _ v59 ⟨pv58,rfl,W,B⟩;refine⟨_,rfl,?_⟩;replace A:=A.keep B;replace a:=a.keep B;replace g:=aA g B;clear B;have L61:=Pw.dt (rem (rem (rem E (Ky.mk k id 0)) (Ky.mk 14 l id)) (Ky.mk 15 c id)) (Ky.mk 17 m c) (nv ((bE (got (rem (rem (rem E (Ky.mk k id 0)) (Ky.mk 14 l id)) (Ky.mk 15 c id)) (Ky.mk 17 m c)) - 1) % 18446744073709551616));refine tc 85 8 #[pg q,f,pv58] (gJ A.rx g W (by omega) (by omega) (dN (jT m c) (Nat.le_trans (fA _) (by decide)))) ?_
  rintro _ v62 ⟨rfl,K60,S,e,d⟩;refine⟨_,rfl,?_⟩;obtain⟨a,b⟩:=au a b e d;replace g:=A.byu g d;replace W:=A.byu W d;replace A:=A.op S e d;refine ae (aa (ab (ag (t 4 (bT) (ae (aa (aF (aE (bT) (rs1 4 (by kernel_rfl) (by kernel_rfl)) ?_))))))))
  have e1:cQ E id k=put (rem (rem (rem E (Ky.mk k id 0)) (Ky.mk 14 l id)) (Ky.mk 15 c id)) (Ky.mk 17 m c) (nv ((bE (got (rem (rem (rem E (Ky.mk k id 0)) (Ky.mk 14 l id)) (Ky.mk 15 c id)) (Ky.mk 17 m c)) - 1) % 18446744073709551616)):=ac.trans (by unfold lx;exact if_neg Q);rw[e1,hdb];exact⟨rfl,_,_,A.rx,by omega,A.xm,A.cc⟩
end Qu
end
section
namespace Pw
open Go.RowKit Go.Lib Pg Lim Gl Kv Bk
attribute [local go_sem] Oper.semAt_some
set_option linter.unusedSimpArgs false
set_option linter.unusedVariables false
theorem CY {E:ay} {k v:List Int} {x:KV} (h:x∈put E k v):x∈E\/x=(k,v):=by
 unfold put at h;rcases List.mem_append.1 h with h | h
 ·exact .inl (List.mem_filter.1 h).1
 ·rcases List.mem_cons.1 h with h | h
  ·exact .inr h
  ·exact .inl (List.mem_filter.1 h).1
section
variable {E:ay} {v tk:Int}
end
section
variable {B g n N:Nat}{w:World}{K:Nat->Prop}{E:ay}{W:List ay}
theorem Fb(h:Sx B w K g E W n N)(a:N<=100000000):Calls Tryz.prog 23 #[pg g] w fun e w'=>∃ v es,e=.returned v/\PrA w' w.heap.size v es/\es.map En.kl2=E/\Zp K w.heap.size w' w'/\Below w.heap.size w w':=by
 refine(sdump h.sa a).mono ?_
 rintro e w' ⟨v,es,rfl,P,he,B⟩;exact⟨v,es,rfl,P,he,zp_new (fun b hb=>h.sa.lt hb),B⟩
theorem BT{f n2:Nat}{u v:Value}{a b:List En}(h:Sx B w K g E W n N)(k:N<=100000000)(d:PrA w f u a)(hb:PrA w n2 v b)(c:a.map En.kl2=E)(j:b.map En.kl2=E):Calls Tryz.prog 22 #[u,v] w fun e w'=>e=.returned (.bool true)/\Below w.heap.size w w':=by
 refine sZ d hb (c.trans j.symm) (fun x hx=>?_) ?_
 ·exact h.sa.small (x.kl,x.vl) (by rw[<- c];exact List.mem_map.2 ⟨x,hx,rfl⟩)
 ·have i:=h.sa.size;rw[<- c,List.length_map] at i;omega
end
section
variable {B:Nat} {w w':World} {K K' X X':Nat->Prop} {g q:Nat} {E E2:ay} {W:List ay} {n N n2:Nat}
section
variable {x:Nat}{cs:List Value}
theorem Rx.new(h:Rx B w X q E n)(hx:w.heap.size<=x):¬ X x:=fun hk=>by have:=h.lt hk;omega
theorem Rx.cell{t:TypeId}(h:Rx B w X q E n)(Y:Blk w x cs t)(C:Chg (·=x) w w')(d:¬ X x)(c:t≠5):Rx B w' X q E n :=
 h.off C (fun b e hb=>d ((show b=x from e)▸hb)) (fun b e a k=>by have f:b=x:=e;subst f;exact c (Y.eq k).2)
theorem kS(r:Rx B w X q E2 n2)(dj:∀ b,K b->¬ X b)(hK:∀ b,K' b->K b\/w.heap.size<=b):∀ b,K' b->¬ X b:=fun b hb hx=>(hK b hb).elim (fun h=>dj b h hx) (fun h=>by have:=r.lt hx;omega)
theorem gI(s:Sx B w K g E W n N)(dj:∀ b,K b->¬ X b)(hX:∀ b,X' b->X b\/w.heap.size<=b):∀ b,K b->¬ X' b:=fun b hb hx=>(hX b hx).elim (dj b hb) (fun h=>by have:=s.sa.lt hb;omega)
theorem Sx.dW(s:Sx B w K g E W n N)(r:Rx B w X q E2 n2)(a:Chg X w w')(e:∀ b,K b->¬ X b):Sx B w' K g E W n N :=
 ⟨s.sa.chg a (fun b hx d=>e b d hx) (fun b hx cs k=>by obtain⟨_,_,f,c⟩:=r.kind b hx;exact c (f.eq k).2),Nat.le_trans s.lo a.size,s.kb⟩
theorem rx_new(Y:Blk w q [.slice none 0 0,.slice none 0 0,.int .i64 0] 33)(d:B<=w.heap.size/\B<=q):Rx B w (·=q) q [] 0 :=
 ⟨⟨⟨_,_,Y,⟨⟨[],Pq.nil _ _ _,rfl⟩,fun b m c e=>by cases e⟩,⟨.inl ⟨rfl,rfl⟩⟩⟩,rfl,fun b e=>by have a:b=q:=e;subst a;exact⟨d.2,Y.lt⟩,List.Pairwise.nil,fun x h=>by simp at h⟩,fun b e=>by have a:b=q:=e;subst a;exact⟨_,_,Y,by decide⟩,d.1⟩
end
end
end Pw
end
end Go.Proofs.YtidnifmehnjipaaGreat
