import Derived.Test.YtpoifdokmjhclaaGreatJyI
set_option maxRecDepth 100000
set_option maxHeartbeats 8000000
namespace Go.Proofs.YtpoifdokmjhclaaGreat
namespace Fo
open Go.RowKit Go.Lib Pg Lim Gl Kv Bk Pw Sd Di
attribute [local go_sem] Oper.semAt_some
set_option linter.unusedVariables false
set_option linter.unusedSimpArgs false
section
variable {w:World}{n na nv b c g1 g2 c1 c2 m:Nat}{A V l L:List Int}{sp sq:List Value}{v:Value}{p0 p1 p2 p3 p4 p5 p6 p7 p8 p9:Int}{ao:Option Addr}
theorem nlb{g k:Nat}{T:TypeId}(X:Blk w g (A.map (Value.int .u64) ++ sp) T)(h:A.length=n * k)(r:∀ x∈A,Mg.In8 x):Gn.Nl w (some ⟨g,0,none⟩) n k g 0 A:=⟨h,λ_=>rfl,λi hi=>by
 rw[Nat.zero_add];refine X.cell ?_
 rw[List.getElem?_append_left (by simp;omega),List.getElem?_map,List.getElem?_eq_getElem (by omega)]
 simp[nth,List.getD_eq_getElem?_getD,List.getElem?_eq_getElem (show i < A.length by omega)],r⟩
theorem gev{B:Nat}(h:Gn.GeV B w v ⟨[p0,p1,p2,p3,p4,p5,p6,p7,p8,p9],A,V⟩)(hA:A.length=na * 2)(g:V.length=nv * 3)(x:0 < na)(hv:0 < nv):∃ g1 g2,v=.agg #[.int .u64 p0,.int .u64 p1,.int .u64 p2,.int .u64 p3,.int .u64 p4,.int .u64 p5,.int .u64 p6,.int .u64 p7,.int .u64 p8,.int .u64 p9,.slice (some ⟨g1,0,none⟩) na na,.slice (some ⟨g2,0,none⟩) nv nv]/\(B<=g1/\B<=g2/\g1≠g2)/\Blk w g1 (A.map (Value.int .u64)) 43/\Blk w g2 (V.map (Value.int .u64)) 45:=by
 obtain⟨q0,q1,u,m,p,n,l,j,t,i,a1,f,g1,a2,c,g2,rfl,o,s,r⟩:=h.ex
 have a:[p0,p1,p2,p3,p4,p5,p6,p7,p8,p9]=[q0,q1,u,m,p,n,l,j,t,i]:=o
 cases a;rcases s.ex with⟨rfl,rfl,e⟩ | ⟨rfl,y1,X1,l1⟩
 ·have b:A=[]:=e;rw[b] at hA;simp at hA;omega
 rcases r.ex with⟨rfl,rfl,e⟩ | ⟨rfl,y2,X2,l2⟩
 ·have b:V=[]:=e;rw[b] at g;simp at g;omega
 have k:A.length=f * 2:=l1
 have q:V.length=c * 3:=l2;obtain rfl:f=na:=by omega
 obtain rfl:c=nv:=by omega
 exact⟨g1,g2,rfl,⟨y1,y2,λe=>by
  have d:=X1.blk;rw[e,X2.blk] at d
  simp at d⟩,X1,X2⟩
theorem nP(B:ByA w b ao n c l)(hn:n<=1000000000)(h0:Gn.eD l=0)(a:Gn.gD l=⟨[p0,p1,p2,p3,p4,p5,p6,p7,p8,p9],A,V⟩)(hA:A.length=na * 2:=by rfl)(h:V.length=nv * 3:=by rfl)(f:0 < na:=by decide)(hv:0 < nv:=by decide):CP 8 #[.slice ao n c] w λe w'=>∃ g1 g2,e=.returned (.tuple #[.agg #[.int .u64 p0,.int .u64 p1,.int .u64 p2,.int .u64 p3,.int .u64 p4,.int .u64 p5,.int .u64 p6,.int .u64 p7,.int .u64 p8,.int .u64 p9,.slice (some ⟨g1,0,none⟩) na na,.slice (some ⟨g2,0,none⟩) nv nv],.int .i64 0])/\(w.heap.size<=g1/\w.heap.size<=g2/\g1≠g2)/\Blk w' g1 (A.map (Value.int .u64)) 43/\Blk w' g2 (V.map (Value.int .u64)) 45/\BW w w':=by
 refine(Gn.jC B hn).mono ?_
 rintro e w' ⟨v,rfl,G,d⟩;rw[if_pos h0,a] at G;rw[h0];obtain⟨g1,g2,rfl,hy,g,i⟩:=gev G hA h f hv;exact⟨g1,g2,rfl,hy,g,i,d⟩
theorem Em{er:Int}(B:ByA w b ao n c l)(hn:n<=1000000000)(h0:Gn.eD l=er)(he:er≠0):CP 8 #[.slice ao n c] w λe w'=>∃ a1 m1 a2 m2,e=.returned (.tuple #[.agg #[.int .u64 0,.int .u64 0,.int .u64 0,.int .u64 0,.int .u64 0,.int .u64 0,.int .u64 0,.int .u64 0,.int .u64 0,.int .u64 0,.slice a1 m1 m1,.slice a2 m2 m2],.int .i64 er])/\BW w w':=by
 refine(Gn.jC B hn).mono ?_
 rintro e w' ⟨v,rfl,G,m⟩;rw[if_neg (by rw[h0];exact he)] at G;rw[h0];obtain⟨q0,q1,p,h,k,i,g,f,o,d,a1,m1,g1,a2,m2,q,rfl,j,s,r⟩:=G.ex
 have a:[0,0,0,0,0,0,0,0,0,0]=[q0,q1,p,h,k,i,g,f,o,d]:=j
 cases a;exact⟨a1,m1,a2,m2,rfl,m⟩
theorem enc_at(h:Blk w g1 (A.map (Value.int .u64) ++ sp) 43)(i:Blk w g2 (V.map (Value.int .u64) ++ sq) 45)(hL:Gn.bG ⟨[p0,p1,p2,p3,p4,p5,p6,p7,p8,p9],A,V⟩ na nv=L)(hA:A.length=na * 2:=by rfl)(g:V.length=nv * 3:=by rfl)(a:∀ x∈A,Mg.In8 x:=by unfold Mg.In8; decide)(d:∀ x∈V,Mg.In8 x:=by unfold Mg.In8; decide)(f:na<=1000:=by decide)(hv:nv<=1000:=by decide)(j:L.length<=1000000:=by decide):CP 11 #[.agg #[.int .u64 p0,.int .u64 p1,.int .u64 p2,.int .u64 p3,.int .u64 p4,.int .u64 p5,.int .u64 p6,.int .u64 p7,.int .u64 p8,.int .u64 p9,.slice (some ⟨g1,0,none⟩) na c1,.slice (some ⟨g2,0,none⟩) nv c2]] w λe w'=>∃ b,e=.returned (.slice (some ⟨b,0,none⟩) L.length L.length)/\Blk w' b (L.map (Value.int .u8)) 5/\w.heap.size<=b/\BW w w':=by
 subst hL;refine(Gn.nU (nlb h hA a) (nlb i g d) f hv).mono ?_
 rintro e w' ⟨b,rfl,hb,Y,c⟩;exact⟨b,rfl,⟨Y.blk⟩,hb,c⟩
theorem by_blk(h:Blk w b (L.map (Value.int .u8)) 5)(ho:aJ L)(hl:L.length<=1000000):ByA w b (some ⟨b,0,none⟩) L.length L.length L:=Rc.EB ⟨h.blk⟩ rfl ho hl
theorem tX(h:Blk w b (L.map (Value.int .u8)) 5)(ho:aJ L)(hm:L.length=m)(hl:m<=1000000:=by decide):ByA w b (some ⟨b,0,none⟩) m m L:=by
 subst hm;exact by_blk h ho hl
theorem vM(f:Blk w g1 (A.map (Value.int .u64) ++ sp) 43)(g:Blk w g2 (V.map (Value.int .u64) ++ sq) 45)(hL:Gn.bG ⟨[p0,p1,p2,p3,p4,p5,p6,p7,p8,p9],A,V⟩ na nv=L)(hm:L.length=m)(hA:A.length=na * 2:=by rfl)(h:V.length=nv * 3:=by rfl)(i:∀ x∈A,Mg.In8 x:=by unfold Mg.In8; decide)(c:∀ x∈V,Mg.In8 x:=by unfold Mg.In8; decide)(d:na<=1000:=by decide)(hv:nv<=1000:=by decide)(a:m<=1000000:=by decide):CP 11 #[.agg #[.int .u64 p0,.int .u64 p1,.int .u64 p2,.int .u64 p3,.int .u64 p4,.int .u64 p5,.int .u64 p6,.int .u64 p7,.int .u64 p8,.int .u64 p9,.slice (some ⟨g1,0,none⟩) na c1,.slice (some ⟨g2,0,none⟩) nv c2]] w λe w'=>∃ b,e=.returned (.slice (some ⟨b,0,none⟩) m m)/\Blk w' b (L.map (Value.int .u8)) 5/\w.heap.size<=b/\BW w w':=by
 subst hm;exact enc_at f g hL hA h i c d hv a
theorem make_y(A:ByA w b ao n c l)(hn:n<=1000000000)(h0:Gn.eD l=0)(p:Gn.gD l=⟨[1,1,1,0,0,0,0,0,0,16],[16,100],[16,500,10]⟩):CP 14 #[.slice ao n c] w λe w'=>∃ g K' n' N' B,e=.returned (.tuple #[pg g,iI 0])/\Sx B w' K' g e16 [] n' N'/\n'<=30000/\N'<=30000/\w.heap.size<=B/\BW w w':=by
 have d:=Below.refl w.heap.size w;refine af (n:=23) Tryz.func14 rfl ?_
 refine sr<|tz 2<|nx<|tz 1<|tc 8 8 #[.slice ao n c] (nP (na:=1) (nv:=1) A hn h0 p) ?_
 rintro _ v1 ⟨ba,i,rfl,-,f,h,B⟩;have d:=ae d B;have t:=d.size;refine⟨_,rfl,tz 3 ?_⟩;have j:=f.lt;have q:=h.lt;refine ta 4 cl0 28 (pg) ?_
 intro v2 k a r B;have d:=ae d B;have f:=f.keep B;have h:=h.keep B;refine tsw a [iU 1,iU 1,iU 1,iU 0,iU 0,iU 0,iU 0,iU 0,iU 0,iU 16,.slice (some ⟨ba,0,none⟩) 1 1,.slice (some ⟨i,0,none⟩) 1 1] ?_
 intro v4 Y C;have d:=aF d C;have f:=f.chg C (by omega);have h:=h.chg C (by omega);have a:=Y;refine tz 1<|nt<|ag<|sr<|tz 2<|nt<|aA [(2,.pointer none),(3,iI 0),(4,pg k),(5,iI 0),(12,bF)]<|nk<|ag<|sr<|tlr 14 [iU 1,iU 1,iU 1,iU 0,iU 0,iU 0,iU 0,iU 0,iU 0,iU 16,.slice (some ⟨ba,0,none⟩) 1 1,.slice (some ⟨i,0,none⟩) 1 1] a 0<|tc 15 37 #[.agg #[iU 1,iU 1,iU 1,iU 0,iU 0,iU 0,iU 0,iU 0,iU 0,iU 16,.slice (some ⟨ba,0,none⟩) 1 1,.slice (some ⟨i,0,none⟩) 1 1]] (Dk f h) ?_
 rintro _ v ⟨rfl,B⟩;have d:=ae d B;have f:=f.keep B;have h:=h.keep B;have a:=a.keep B;refine⟨_,rfl,tz 1<|nx<|tz 2<|nt<|nk<|sr<|tlr 19 [iU 1,iU 1,iU 1,iU 0,iU 0,iU 0,iU 0,iU 0,iU 0,iU 16,.slice (some ⟨ba,0,none⟩) 1 1,.slice (some ⟨i,0,none⟩) 1 1] a 0 ?_⟩;have u:=d.size;refine tc 20 38 #[.agg #[iU 1,iU 1,iU 1,iU 0,iU 0,iU 0,iU 0,iU 0,iU 0,iU 16,.slice (some ⟨ba,0,none⟩) 1 1,.slice (some ⟨i,0,none⟩) 1 1]] (DQ f h) ?_
 rintro _ v6 ⟨g,K',n',N',o,rfl,S,q1,m,s,B⟩;have d:=ae d B;have f:=f.keep B;have h:=h.keep B;have a:=a.keep B;refine⟨_,rfl,tz 4<|nr<|ah (.tuple #[pg g,iI 0]) (rs2 2 3) ?_⟩;exact⟨g,K',n',N',o,rfl,S,q1,m,by omega,d⟩
theorem make_n(A:ByA w b ao n c l)(hn:n<=1000000000)(h0:Gn.eD l=0)(i:Gn.gD l=⟨[1,1,1,0,0,0,0,0,0,16],[16,100],[17,500,10]⟩):cB 14 #[.slice ao n c] w (.tuple #[.pointer none,iI 215]):=by
 have d:=Below.refl w.heap.size w;refine af (n:=23) Tryz.func14 rfl ?_
 refine sr<|tz 2<|nx<|tz 1<|tc 8 8 #[.slice ao n c] (nP (na:=1) (nv:=1) A hn h0 i) ?_
 rintro _ v1 ⟨ba,g,rfl,-,e,f,B⟩;have d:=ae d B;have o:=d.size;refine⟨_,rfl,tz 3 ?_⟩;have h:=e.lt;have j:=f.lt;refine ta 4 cl0 28 (pg) ?_
 intro v2 m a k B;have d:=ae d B;have e:=e.keep B;have f:=f.keep B;refine tsw a [iU 1,iU 1,iU 1,iU 0,iU 0,iU 0,iU 0,iU 0,iU 0,iU 16,.slice (some ⟨ba,0,none⟩) 1 1,.slice (some ⟨g,0,none⟩) 1 1] ?_
 intro v4 Y C;have d:=aF d C;have e:=e.chg C (by omega);have f:=f.chg C (by omega);have a:=Y;refine tz 1<|nt<|ag<|sr<|tz 2<|nt<|aA [(2,.pointer none),(3,iI 0),(4,pg m),(5,iI 0),(12,bF)]<|nk<|ag<|sr<|tlr 14 [iU 1,iU 1,iU 1,iU 0,iU 0,iU 0,iU 0,iU 0,iU 0,iU 16,.slice (some ⟨ba,0,none⟩) 1 1,.slice (some ⟨g,0,none⟩) 1 1] a 0<|tc 15 37 #[.agg #[iU 1,iU 1,iU 1,iU 0,iU 0,iU 0,iU 0,iU 0,iU 0,iU 16,.slice (some ⟨ba,0,none⟩) 1 1,.slice (some ⟨g,0,none⟩) 1 1]] (AB e f) ?_
 rintro _ p ⟨rfl,B⟩;have d:=ae d B;have e:=e.keep B;have f:=f.keep B;have a:=a.keep B;refine⟨_,rfl,tz 1<|nx<|tz 2<|nt<|nk<|sr<|tlr 19 [iU 1,iU 1,iU 1,iU 0,iU 0,iU 0,iU 0,iU 0,iU 0,iU 16,.slice (some ⟨ba,0,none⟩) 1 1,.slice (some ⟨g,0,none⟩) 1 1] a 0<|tc 20 38 #[.agg #[iU 1,iU 1,iU 1,iU 0,iU 0,iU 0,iU 0,iU 0,iU 0,iU 16,.slice (some ⟨ba,0,none⟩) 1 1,.slice (some ⟨g,0,none⟩) 1 1]] (D0 e f) ?_⟩;rintro _ v6 ⟨rfl,B⟩;have d:=ae d B;have e:=e.keep B;have f:=f.keep B;have a:=a.keep B;refine⟨_,rfl,tz 4<|nr<|ah (.tuple #[.pointer none,iI 215]) (rs2 2 3) ?_⟩;exact⟨rfl,d⟩
theorem make_a(A:ByA w b ao n c l)(hn:n<=1000000000)(h0:Gn.eD l=0)(i:Gn.gD l=⟨[1,1,1,0,0,0,0,0,0,16],[16,100,16,100],[17,500,10]⟩):cB 14 #[.slice ao n c] w (.tuple #[.pointer none,iI 213]):=by
 have d:=Below.refl w.heap.size w;refine af (n:=23) Tryz.func14 rfl ?_
 refine sr<|tz 2<|nx<|tz 1<|tc 8 8 #[.slice ao n c] (nP (na:=2) (nv:=1) A hn h0 i) ?_
 rintro _ v1 ⟨ba,g,rfl,-,e,f,B⟩;have d:=ae d B;have o:=d.size;refine⟨_,rfl,tz 3 ?_⟩;have h:=e.lt;have j:=f.lt;refine ta 4 cl0 28 (pg) ?_
 intro v2 m a k B;have d:=ae d B;have e:=e.keep B;have f:=f.keep B;refine tsw a [iU 1,iU 1,iU 1,iU 0,iU 0,iU 0,iU 0,iU 0,iU 0,iU 16,.slice (some ⟨ba,0,none⟩) 2 2,.slice (some ⟨g,0,none⟩) 1 1] ?_
 intro v4 Y C;have d:=aF d C;have e:=e.chg C (by omega);have f:=f.chg C (by omega);have a:=Y;refine tz 1<|nt<|ag<|sr<|tz 2<|nt<|aA [(2,.pointer none),(3,iI 0),(4,pg m),(5,iI 0),(12,bF)]<|nk<|ag<|sr<|tlr 14 [iU 1,iU 1,iU 1,iU 0,iU 0,iU 0,iU 0,iU 0,iU 0,iU 16,.slice (some ⟨ba,0,none⟩) 2 2,.slice (some ⟨g,0,none⟩) 1 1] a 0<|tc 15 37 #[.agg #[iU 1,iU 1,iU 1,iU 0,iU 0,iU 0,iU 0,iU 0,iU 0,iU 16,.slice (some ⟨ba,0,none⟩) 2 2,.slice (some ⟨g,0,none⟩) 1 1]] (Gh e) ?_
 rintro _ p ⟨rfl,B⟩;have d:=ae d B;have e:=e.keep B;have f:=f.keep B;have a:=a.keep B;refine⟨_,rfl,tz 1<|nx<|tz 2<|nt<|aL<|sr<|tz 3<|nr<|bE<|ah (.tuple #[.pointer none,iI 213]) (rs2 2 3) ?_⟩;exact⟨rfl,d⟩
theorem make_p(A:ByA w b ao n c l)(hn:n<=1000000000)(h0:Gn.eD l=0)(i:Gn.gD l=⟨[0,1,1,0,0,0,0,0,0,16],[16,100,16,100],[17,500,10]⟩):cB 14 #[.slice ao n c] w (.tuple #[.pointer none,iI 212]):=by
 have d:=Below.refl w.heap.size w;refine af (n:=23) Tryz.func14 rfl ?_
 refine sr<|tz 2<|nx<|tz 1<|tc 8 8 #[.slice ao n c] (nP (na:=2) (nv:=1) A hn h0 i) ?_
 rintro _ v1 ⟨ba,g,rfl,-,e,f,B⟩;have d:=ae d B;have o:=d.size;refine⟨_,rfl,tz 3 ?_⟩;have h:=e.lt;have j:=f.lt;refine ta 4 cl0 28 (pg) ?_
 intro v2 m a k B;have d:=ae d B;have e:=e.keep B;have f:=f.keep B;refine tsw a [iU 0,iU 1,iU 1,iU 0,iU 0,iU 0,iU 0,iU 0,iU 0,iU 16,.slice (some ⟨ba,0,none⟩) 2 2,.slice (some ⟨g,0,none⟩) 1 1] ?_
 intro v4 Y C;have d:=aF d C;have e:=e.chg C (by omega);have f:=f.chg C (by omega);have a:=Y;refine tz 1<|nt<|ag<|sr<|tz 2<|nt<|aA [(2,.pointer none),(3,iI 0),(4,pg m),(5,iI 0),(12,bF)]<|nk<|ag<|sr<|tlr 14 [iU 0,iU 1,iU 1,iU 0,iU 0,iU 0,iU 0,iU 0,iU 0,iU 16,.slice (some ⟨ba,0,none⟩) 2 2,.slice (some ⟨g,0,none⟩) 1 1] a 0<|tc 15 37 #[.agg #[iU 0,iU 1,iU 1,iU 0,iU 0,iU 0,iU 0,iU 0,iU 0,iU 16,.slice (some ⟨ba,0,none⟩) 2 2,.slice (some ⟨g,0,none⟩) 1 1]] (FX) ?_
 rintro _ p ⟨rfl,B⟩;have d:=ae d B;have e:=e.keep B;have f:=f.keep B;have a:=a.keep B;refine⟨_,rfl,tz 1<|nx<|tz 2<|nt<|aL<|sr<|tz 3<|nr<|bE<|ah (.tuple #[.pointer none,iI 212]) (rs2 2 3) ?_⟩;exact⟨rfl,d⟩
theorem make_d(A:ByA w b ao n c l)(hn:n<=1000000000)(h0:Gn.eD l=210):cB 14 #[.slice ao n c] w (.tuple #[.pointer none,iI 210]):=by
 have a:=Below.refl w.heap.size w;refine af (n:=23) Tryz.func14 rfl ?_
 refine sr<|tz 2<|nx<|tz 1<|tc 8 8 #[.slice ao n c] (Em A hn h0 (by decide)) ?_
 rintro _ v1 ⟨a1,f,a2,e,rfl,B⟩;have a:=ae a B;have i:=a.size;refine⟨_,rfl,tz 3<|ta 4 cl0 28 (pg) ?_⟩;intro v2 h d g B;have a:=ae a B;refine tsw d [iU 0,iU 0,iU 0,iU 0,iU 0,iU 0,iU 0,iU 0,iU 0,iU 0,.slice a1 f f,.slice a2 e e] ?_
 intro v4 Y C;have a:=aF a C;have d:=Y;refine tz 1<|nt<|ag<|sr<|tz 2<|nt<|aA [(2,.pointer none),(3,iI 0),(4,pg h),(5,iI 210),(12,bT)]<|aL<|sr<|tz 3<|nr<|bE<|ah (.tuple #[.pointer none,iI 210]) (rs2 2 3) ?_
 exact⟨rfl,a⟩
end
end Fo
end Go.Proofs.YtpoifdokmjhclaaGreat
