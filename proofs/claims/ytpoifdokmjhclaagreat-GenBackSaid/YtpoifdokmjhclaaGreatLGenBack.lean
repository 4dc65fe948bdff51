/- Package stake: what Create stands on, at a closed store. -/
import Derived.Test.YtpoifdokmjhclaaGreatJgT
import Derived.Test.YtpoifdokmjhclaaGreatJgU
set_option maxRecDepth 100000
set_option maxHeartbeats 8000000
namespace Go.Proofs.YtpoifdokmjhclaaGreat
namespace Fo
open Go.RowKit Go.Lib Pg Lim Gl Kv Bk Pw Sd Di
attribute [local go_sem] Oper.semAt_some
set_option linter.unusedVariables false
set_option linter.unusedSimpArgs false
theorem qK {w:World} {p0 p1 p2 p3 p4 p5 p6 p7 p8 p9:Int} {a1 a2 ao:Option Addr} {na nv c1 c2 b1 b2 o1 o2 b n c:Nat} {A V l:List Int} (hp:∀ x∈([p0,p1,p2,p3,p4,p5,p6,p7,p8,p9]:List Int),Mg.In8 x) (W:Gn.Nl w a1 na 2 b1 o1 A) (U:Gn.Nl w a2 nv 3 b2 o2 V) (hna:na<=9223372036854775807) (hnv:nv<=9223372036854775807) (H:ByA w b ao n c l) (hn:n<=9223372036854775807):cB 4 #[.agg #[.int .u64 p0,.int .u64 p1,.int .u64 p2,.int .u64 p3,.int .u64 p4,.int .u64 p5,.int .u64 p6,.int .u64 p7,.int .u64 p8,.int .u64 p9,.slice a1 na c1,.slice a2 nv c2],.slice ao n c] w (.bool true):=by
 have i:=Below.refl w.heap.size w;refine af (n:=66) Tryz.func4 rfl ?_
 refine sr<|ta 2 [iU p0,iU p1,iU p2,iU p3,iU p4,iU p5,iU p6,iU p7,iU p8,iU p9,.slice a1 na c1,.slice a2 nv c2] 28 (pg) ?_
 intro v1 z e hg2 B
 have zg2:w.heap.size<=z:=Nat.le_trans i.size hg2;replace i:=ae i B;refine tz 1<|nt<|ag<|sr ?_
 have k:=e.lt;refine tc 10 5 #[] (DJ) ?_
 rintro _ v3 ⟨rfl,B⟩;refine⟨_,rfl,?_⟩;replace i:=ae i B;replace e:=e.keep B;refine tz 1<|nt<|nk<|ag<|sr<|tz 1<|tl 13 (.slice a1 na c1) e 10<|tz 1 ?_
 by_cases T:(256:Int) < ((na:Nat):Int)
 ·refine tq 15 (.bool (decide ((256:Int) < ((na:Nat):Int)))) (bT) (congrArg Value.bool (decide_eq_true T))<|tz 1<|tn 17<|tn 18<|tn 19<|tn 20<|tz 2<|tn 23<|tn 24<|tn 25<|tz 1<|nt<|ay [(1,.slice ao n c),(2,pg z),(4,bF),(26,bT)]<|aJ<|sr<|tz 1<|nr<|bN<|ah (bT) (rs1 4) ?_
  exact⟨rfl,i⟩
 ·refine tq 15 (.bool (decide ((256:Int) < ((na:Nat):Int)))) (bF) (congrArg Value.bool (decide_eq_false T))<|tz 2<|tl 18 (.slice a2 nv c2) e 11<|tz 1 ?_
  by_cases R:(64:Int) < ((nv:Nat):Int)
  ·refine tq 20 (.bool (decide ((64:Int) < ((nv:Nat):Int)))) (bT) (congrArg Value.bool (decide_eq_true R))<|tz 2<|tn 23<|tn 24<|tn 25<|tz 1<|nt<|ay [(1,.slice ao n c),(2,pg z),(4,bF),(26,bT)]<|aJ<|sr<|tz 1<|nr<|bN<|ah (bT) (rs1 4) ?_
   exact⟨rfl,i⟩
  ·refine tq 20 (.bool (decide ((64:Int) < ((nv:Nat):Int)))) (bF) (congrArg Value.bool (decide_eq_false R))<|tz 4 ?_
   by_cases G:(65546:Int) < ((n:Nat):Int)
   ·refine tq 25 (.bool (decide ((65546:Int) < ((n:Nat):Int)))) (bT) (congrArg Value.bool (decide_eq_true G))<|tz 1<|nt<|ay [(1,.slice ao n c),(2,pg z),(4,bF),(26,bT)]<|aJ<|sr<|tz 1<|nr<|bN<|ah (bT) (rs1 4) ?_
    exact⟨rfl,i⟩
   ·refine tq 25 (.bool (decide ((65546:Int) < ((n:Nat):Int)))) (bF) (congrArg Value.bool (decide_eq_false G))<|tz 1<|nt<|ay [(1,.slice ao n c),(2,pg z),(4,bF),(26,bF)]<|nk<|sr<|tlr 27 [iU p0,iU p1,iU p2,iU p3,iU p4,iU p5,iU p6,iU p7,iU p8,iU p9,.slice a1 na c1,.slice a2 nv c2] e 0 ?_
    obtain⟨L,hL⟩:∃ L,Gn.bG ⟨[p0,p1,p2,p3,p4,p5,p6,p7,p8,p9],A,V⟩ na nv=L:=⟨_,rfl⟩
    obtain⟨m,hm⟩:∃ m,L.length=m:=⟨_,rfl⟩
    have ok:Gn.Ge.Ok ⟨[p0,p1,p2,p3,p4,p5,p6,p7,p8,p9],A,V⟩ na nv:=⟨rfl,W.len,U.len,hp,W.rng,U.rng⟩
    obtain⟨hE,hG,P⟩:=back0 ok (by omega) (by omega);have hF:=back1 ok (by omega) (by omega);have hO:=Gn.mz ⟨[p0,p1,p2,p3,p4,p5,p6,p7,p8,p9],A,V⟩ na nv;rw[hL] at hE hG P hF hO;rw[hm] at P;have k:=e.lt;refine tc 28 11 #[.agg #[iU p0,iU p1,iU p2,iU p3,iU p4,iU p5,iU p6,iU p7,iU p8,iU p9,.slice a1 na c1,.slice a2 nv c2]] (Fi (W.keep i) (U.keep i) hL hm (by omega) (by omega)) ?_
    rintro _ v14 ⟨y,rfl,a,hb13,B⟩;refine⟨_,rfl,?_⟩;replace i:=ae i B;replace e:=e.keep B;refine tz 1<|nx<|tz 1 ?_
    have k:=e.lt;have j:=a.lt;refine tc 31 8 #[.slice (some ⟨y,0,none⟩) m m] (dec_g (nu a hO hm (by omega)) (by omega) hE hG ok) ?_
    rintro _ Q ⟨a3,g3,a4,g4,rfl,N3,N4,B⟩;refine⟨_,rfl,?_⟩;replace i:=ae i B;replace e:=e.keep B;replace a:=a.keep B;have p:=Below.refl Q.heap.size Q;refine tz 3 ?_
    have k:=e.lt;have j:=a.lt;refine ta 6 [iU 0,iU 0,iU 0,iU 0,iU 0,iU 0,iU 0,iU 0,iU 0,iU 0,zS,zS] 28 (pg) ?_
    intro v16 r d F B
    have zg17:w.heap.size<=r:=Nat.le_trans i.size F;have yg17:=Nat.le_trans p.size F;replace i:=ae i B;replace e:=e.keep B;replace a:=a.keep B;replace p:=ae p B;refine tsw d [iU p0,iU p1,iU p2,iU p3,iU p4,iU p5,iU p6,iU p7,iU p8,iU p9,.slice a3 na na,.slice a4 nv nv] ?_
    intro v18 Y C;replace i:=aM i C (by omega);replace e:=e.chg C (show z≠r by omega);replace a:=a.chg C (show y≠r by omega);replace p:=aM p C (by omega);have d:=Y;refine tz 1<|nx<|tz 1 ?_
    have k:=e.lt;have j:=a.lt;have o:=d.lt;refine ta 36 [.int .u8 0] 5 (sg 1) ?_
    intro v19 K f D B
    have zg20:w.heap.size<=K:=Nat.le_trans i.size D;have yg20:=Nat.le_trans p.size D;replace i:=ae i B;replace e:=e.keep B;replace a:=a.keep B;replace p:=ae p B;replace d:=d.keep B;have k:=e.lt;have j:=a.lt;have o:=d.lt;have q:=f.lt;obtain⟨bb,cc,w5,S,A5,M⟩:=AP a f hO hm ⟨by decide,by decide⟩ (by omega);refine tw 37 (.slice (some ⟨bb,0,none⟩) (m+1) cc) _ (vg S) ?_
    replace i:=ae i M;replace e:=e.keep M;replace a:=a.keep M;replace p:=ae p M;replace d:=d.keep M;replace f:=f.keep M;clear M S;have k:=e.lt;have j:=a.lt;have o:=d.lt;have q:=f.lt;refine tc 38 8 #[.slice (some ⟨bb,0,none⟩) (m+1) cc] (vp A5 (by omega) hF (by decide)) ?_
    rintro _ v21 ⟨b1,k1,b2,k2,rfl,B⟩;refine⟨_,rfl,?_⟩;replace i:=ae i B;replace e:=e.keep B;replace a:=a.keep B;replace p:=ae p B;replace d:=d.keep B;replace f:=f.keep B;refine tz 3 ?_
    have k:=e.lt;have j:=a.lt;have o:=d.lt;have q:=f.lt;refine ta 8 [iU 0,iU 0,iU 0,iU 0,iU 0,iU 0,iU 0,iU 0,iU 0,iU 0,zS,zS] 28 (pg) ?_
    intro v22 u g E B
    have zg23:w.heap.size<=u:=Nat.le_trans i.size E;have yg23:=Nat.le_trans p.size E;replace i:=ae i B;replace e:=e.keep B;replace a:=a.keep B;replace p:=ae p B;replace d:=d.keep B;replace f:=f.keep B;refine tsw g [iU 0,iU 0,iU 0,iU 0,iU 0,iU 0,iU 0,iU 0,iU 0,iU 0,.slice b1 k1 k1,.slice b2 k2 k2] ?_
    intro v24 Y C;replace i:=aM i C (by omega);replace e:=e.chg C (show z≠u by omega);replace a:=a.chg C (show y≠u by omega);replace p:=aM p C (by omega);replace d:=d.chg C (show r≠u by omega);replace f:=f.chg C (show K≠u by omega);have g:=Y;refine tz 1<|nt<|ay [(1,.slice ao n c),(2,pg z),(4,bF),(6,pg r),(7,iI 0),(9,iI 210)]<|ag<|sr<|tz 3<|tlr 44 [iU p0,iU p1,iU p2,iU p3,iU p4,iU p5,iU p6,iU p7,iU p8,iU p9,.slice a3 na na,.slice a4 nv nv] d 0<|tlr 45 [iU p0,iU p1,iU p2,iU p3,iU p4,iU p5,iU p6,iU p7,iU p8,iU p9,.slice a1 na c1,.slice a2 nv c2] e 0 ?_
    have k:=e.lt;have j:=a.lt;have o:=d.lt;have q:=f.lt;have s:=g.lt;refine tc 46 13 #[.agg #[iU p0,iU p1,iU p2,iU p3,iU p4,iU p5,iU p6,iU p7,iU p8,iU p9,.slice a3 na na,.slice a4 nv nv],.agg #[iU p0,iU p1,iU p2,iU p3,iU p4,iU p5,iU p6,iU p7,iU p8,iU p9,.slice a1 na c1,.slice a2 nv c2]] (Gn.Cx (N3.keep p) (N4.keep p) (W.keep i) (U.keep i) (by omega) (by omega)) ?_
    rintro _ v25 ⟨rfl,B⟩;refine⟨_,rfl,?_⟩;replace i:=ae i B;replace e:=e.keep B;replace a:=a.keep B;replace p:=ae p B;replace d:=d.keep B;replace f:=f.keep B;replace g:=g.keep B;refine tz 6<|nt<|ay [(1,.slice ao n c),(4,bF),(6,pg r),(7,iI 0),(52,bF)]<|nk<|sr<|tz 1 ?_
    have k:=e.lt;have j:=a.lt;have o:=d.lt;have q:=f.lt;have s:=g.lt;refine tc 55 8 #[.slice ao n c] (dec_n (H.keep i) (by omega)) ?_
    rintro _ v26 ⟨q0,q1,q2,Z,q4,q5,q6,q7,q8,X,a5,N,g5,a6,O,g6,A1,V1,rfl,hd,I,J,k5,k6,B⟩;refine⟨_,rfl,?_⟩;replace i:=ae i B;replace e:=e.keep B;replace a:=a.keep B;replace p:=ae p B;replace d:=d.keep B;replace f:=f.keep B;replace g:=g.keep B;refine tz 3<|tsw d [iU q0,iU q1,iU q2,iU Z,iU q4,iU q5,iU q6,iU q7,iU q8,iU X,.slice a5 N N,.slice a6 O O] ?_
    intro v27 Y C;replace i:=aM i C (by omega);replace e:=e.chg C (show z≠r by omega);replace a:=a.chg C (show y≠r by omega);replace p:=aM p C (by omega);replace f:=f.chg C (show K≠r by omega);replace g:=g.chg C (show u≠r by omega);replace I:=nlC I C (fun h=>by have:=k5 h;omega);replace J:=nlC J C (fun h=>by have:=k6 h;omega);have d:=Y;refine tz 1<|nx<|tz 1 ?_
    by_cases v:(Gn.eD l:Int)=0
    ·refine tq 59 (.bool ((Gn.eD l:Int) != 0)) (bF) (congrArg Value.bool (bne_eq_false_iff_eq.2 v))<|tz 1<|tlr 61 [iU q0,iU q1,iU q2,iU Z,iU q4,iU q5,iU q6,iU q7,iU q8,iU X,.slice a5 N N,.slice a6 O O] d 0 ?_
     obtain⟨hb,hm5,hm6,hl6⟩:=hd v;have k:=e.lt;have j:=a.lt;have o:=d.lt;have q:=f.lt;have s:=g.lt;refine tc 62 11 #[.agg #[iU q0,iU q1,iU q2,iU Z,iU q4,iU q5,iU q6,iU q7,iU q8,iU X,.slice a5 N N,.slice a6 O O]] (Fi I J hb rfl (by omega) (by omega)) ?_
     rintro _ v31 ⟨b30,rfl,t,hb30,B⟩;refine⟨_,rfl,?_⟩;replace i:=ae i B;replace e:=e.keep B;replace a:=a.keep B;replace p:=ae p B;replace d:=d.keep B;replace f:=f.keep B;replace g:=g.keep B;replace I:=I.keep B;replace J:=J.keep B;refine tz 1 ?_
     have k:=e.lt;have j:=a.lt;have o:=d.lt;have q:=f.lt;have s:=g.lt;have lXb30:=t.lt;refine tc 64 10 #[.slice (some ⟨b30,0,none⟩) l.length l.length,.slice ao n c] (bytS (nu t (tQ H).1 rfl (by omega)) (H.keep i) (by omega)) ?_
     rintro _ v32 ⟨rfl,B⟩;refine⟨_,rfl,?_⟩;replace i:=ae i B;replace e:=e.keep B;replace a:=a.keep B;replace p:=ae p B;replace d:=d.keep B;replace f:=f.keep B;replace g:=g.keep B;replace I:=I.keep B;replace J:=J.keep B;replace t:=t.keep B;refine tz 2<|nt<|ay [(4,bT)]<|bh<|ah (bT) (rs1 4) ?_
     exact⟨rfl,i⟩
    ·refine tq 59 (.bool ((Gn.eD l:Int) != 0)) (bT) (congrArg Value.bool (bne_iff_ne.2 v))<|tz 1<|tn 61<|tn 62<|tn 63<|tn 64<|tz 2<|nt<|ay [(4,bT)]<|bh<|ah (bT) (rs1 4) ?_
     exact⟨rfl,i⟩
end Fo
end Go.Proofs.YtpoifdokmjhclaaGreat
