/- gleanlaw13.F1Sums. -/
import Derived.Test.YtjejmkcjflhoiaaGreatDoorJaD
import Derived.Test.YtjejmkcjflhoiaaGreatDoorJaC
set_option maxRecDepth 100000
set_option maxHeartbeats 8000000
namespace Go.Proofs.YtjejmkcjflhoiaaGreatDoor
namespace Fo
open Go.RowKit Go.Lib Pg Lim Gl Kv Bk Pw
attribute [local go_sem] Oper.semAt_some
set_option linter.unusedVariables false
set_option linter.unusedSimpArgs false
def St.clm (s:St) (i:Nat):Int:=cmV s.R (aft s.C (s.pe i)) (s.pe i) s.la (s.st i)
def ij (s:St):Nat->Int
 | 0=>0
 | n+1=>ij s n+(if s.hd n then s.clm n else 0)
theorem E7 {T:Int} {s:St} (I:Iw T s):s.all+s.cur+ij s 4<=s.giv:=by
 have h:=I.sum
 have e:U36 * ij s 4=cV s.hd (fun i=>s.clm i * U36):=by
  rw[j5,Int.mul_comm];congr 1
  unfold ij ij ij ij ij cV;omega
 have b:cV s.hd (fun i=>s.clm i * U36)<=cV s.hd s.pot:=ml fun i hi=>St.wZ I hi
 refine Int.le_of_mul_le_mul_left (a:=U36) ?_ (by decide);rw[Int.mul_add];omega
theorem st0_iw {n:Int} (h:1<=n):Iw (n * U36) (st0 n):=⟨(fun _ h=>by cases h),(fun _ h=>by cases h),(fun _ h=>by cases h),by show U36 * (0+0)+cV _ _<=U36 * 0;unfold cV;simp[st0]⟩
structure JS where
 k:Nat
 n:Nat
 a:Option Addr
 l:Nat
 d:Nat
 z:Nat
theorem sU {w:World} {tok:Int} {ao:Option Addr} {cnt cp pb po:Nat} {sw sa sn:Nat->Int} {aa:Nat->Option Addr} {ns cc:Nat->Nat} {xs:Nat->Int} (htok:0<=tok/\tok < 18446744073709551616) (SA:sE w ao cnt pb po sw sa sn aa ns cc xs):Calls Tryz.prog 4 #[.int .u64 tok,.slice ao cnt cp] w fun e w'=>e=.returned (.bool true)/\Below w.heap.size w w':=by
 obtain⟨nn,hnn⟩:∃ nn:Int,nn=1+tok % 1000000:=⟨_,rfl⟩
 have hn1:1<=nn/\nn<=1000000:=by omega
 obtain⟨T,hTe⟩:∃ T:Int,T=nn * U36:=⟨_,rfl⟩
 have hT:T<=1000000 * U36:=by rw[hTe];exact Int.mul_le_mul_of_nonneg_right hn1.2 (by decide)
 have I0:=st0_iv hn1;rw[<- hTe] at I0;have J0:=st0_iw hn1.1;rw[<- hTe] at J0;have hfew:=SA.few.1;have BB:=Below.refl w.heap.size w;refine aO (n:=80) Tryz.func4 rfl (by kernel_rfl) (by kernel_rfl) ?_
 have hT0:0 < T:=by rw[hTe];exact Int.mul_pos (by omega) (by decide)
 refine ay (aC (t 4 (.bool false) (aA (ah (ay (ay (aC (tc 11 5 #[] (Ds) ?_))))))));rintro _ v1 ⟨rfl,B⟩;refine⟨_,rfl,?_⟩;replace BB:=aB BB B;clear B;refine t 12 (.bool false) (aA (ah (cE (bF (ah (ay (ay (aC (t 13 (.slice ao cnt cp) (tc 14 6 #[.slice ao cnt cp] (uC (SA.keep BB)) ?_))))))))));rintro _ v2 ⟨b1,rfl,hb1,B⟩;refine⟨_,rfl,?_⟩;replace BB:=aB BB B;clear B
 cases b1
 ·skip;refine t 15 (.bool true) (aA (ah (cM (ay (aC (t 4 (.bool true) (aA (ah (aV (jX (aW (.bool true) (rs1 4 (by kernel_rfl) (by kernel_rfl)) ?_)))))))))));exact⟨rfl,BB⟩
 ·have hs:=hb1 rfl;refine t 15 (.bool false) (aA (ah (cE (bF (ah (ay (aC (t 16 (.int .u64 tok) (tc 17 7 #[.int .u64 tok] (xT htok hnn) ?_)))))))));rintro _ v3 ⟨Bz,g0,gr,gd,gh,rfl,RU⟩;refine⟨_,rfl,?_⟩;replace RU:=RU.base BB;clear BB;refine t 5 (pg gr) (aA (ah (ay (ay (aC (t 6 (.int .i64 0) (aA (ah (aY [(1,.slice ao cnt cp),(4,.bool false),(5,pg gr),(6,.int .i64 0)] (by kernel_rfl) (ep (me (fun i=>cnt - i) (fun(i:Nat)=>[(1,.slice ao cnt cp),(5,pg gr),(6,.int .i64 (i:Int))]) (fun i w'=>i<=cnt/\∃ s,Ru w Bz g0 gr gd gh T w' s (4 * i)/\Iv T s (4 * i)/\Iw T s) (0:Nat) ⟨Nat.zero_le _,_,hTe▸RU,I0,J0⟩ (by kernel_rfl) ?_)))))))))));clear RU;rintro i v4 ⟨hi,s,RU,I,J⟩;refine ay (ay (aC (t 18 (.int .i64 (i:Int)) (t 19 (.slice ao cnt cp) (t 20 (.int .i64 ((cnt:Nat):Int)) ?_)))));by_cases ci:(i:Int) < ((cnt:Nat):Int)
  ·have hk:i < cnt:=by omega
   refine tq 21 (.bool (decide ((i:Int) < ((cnt:Nat):Int)))) (.bool true) (congrArg Value.bool (decide_eq_true ci)) (aA (ah (cM (bF (ah (ay (ep (ay (aC (t 24 (pg gr) (t 25 (.slice ao cnt cp) (t 26 (.int .i64 (i:Int)) (tr 27 (pq pb (po+i * 4)) (qK 4 pb po cnt cp i hk SA.ptr) (tr 28 (.agg #[.int .i64 (sw i),.int .i64 (sa i),.int .u64 (sn i),.slice (aa i) (ns i) (cc i)]) (SA.load hk RU.bb) ?_))))))))))))));obtain⟨zd,rD⟩:=nk_nat (SA.nat i hk);have RB:=RU.bb;refine tc 29 8 #[pg gr,.agg #[.int .i64 (sw i),.int .i64 (sa i),.int .u64 (sn i),.slice (aa i) (ns i) (cc i)]] (Cb RU I (by omega) hT (SA.un i hk) rD (hs.2 i hk)) ?_
   rintro _ v5 ⟨s2,rfl,ST,RU⟩;refine⟨_,rfl,?_⟩;have J2:=ST.iw J I hT0;replace I:=ST.iv I;clear J ST;refine aA (ah ?_);obtain⟨K,E,n,N,a0,n0,c0,z0,a1,y,c1,z1,a2,n2,c2,z2,a3,X,c3,z3,a4,n4,c4,z4,a5,n5,c5,z5,Z,D,W,z6,x2,x3,fu,ft,U,F,⟨hsv,htv⟩,⟨bn,bN⟩,⟨m0,m1,m2,m3,m4,m5,m6⟩,hul,htl⟩:=RU.ex;clear RU;have hCl:=I.C
   have hafl:∀ p,(aft s2.C p).length<=1000:=fun p=>Nat.le_trans (List.length_filter_le _ _) (by omega)
   have hla:=I.la;refine eL (fun(j:JA)=>[(1,.slice ao cnt cp),(5,pg gr),(6,.int .i64 (i:Int)),(7,pg j.g)]) (fun(j:JA) w'=>Un w Bz g0 w' K E n N [(j.g,[.slice j.a j.k j.d],32),(gr,(rC g0 gd gh s2.tk (s2.la+1) ((s2.C.length:Nat):Int) (.slice a0 n0 c0) (.slice a1 y c1) (.slice a2 n2 c2) (.slice a3 X c3) (.slice a4 n4 c4) (.slice a5 n5 c5) (.slice Z D W)),43),(gd,dC fu s2.pe ft,53),(gh,hC s2.hd,4)] ((j.z,j.a,j.k,j.d,s2.all+s2.cur) :: (z0,a0,n0,c0,T) :: (z1,a1,y,c1,s2.cur) :: (z2,a2,n2,c2,x2) :: (z3,a3,X,c3,x3) :: (z4,a4,n4,c4,s2.giv) :: (z5,a5,n5,c5,s2.fre) :: (z6,Z,D,W,s2.all) :: dQ fu ft)/\j.k<=D+100000) ?_ ?_
   ·replace U:=U.drew;refine bE (fun w'=>Blk w' gr (rC g0 gd gh s2.tk (s2.la+1) ((s2.C.length:Nat):Int) (.slice a0 n0 c0) (.slice a1 y c1) (.slice a2 n2 c2) (.slice a3 X c3) (.slice a4 n4 c4) (.slice a5 n5 c5) (.slice Z D W)) 43) (fun _=>false) (U.bk 0 rfl) ?_
    refine z 0 30 (pg gr) (z 1 31 (pg gr) (z 2 32 (pq gr 16) (zlr 3 33 [.slice Z D W] (fun _ h=>h) 16 (z 4 34 (pg gr) (z 5 35 (pg gr) (z 6 36 (pq gr 1) (z 7 37 (pq gr 8) (zlr 8 38 [.slice a1 y c1] (fun _ h=>h) 8 (bJ [9,10] ?_)))))))));refine cy 9 (some 39) 13 #[.agg #[.slice Z D W],.agg #[.slice a1 y c1]] (lZ (U.nq 6 rfl).nat (by omega) (U.nq 1 rfl).nat (by omega)) ?_ ?_
    ·rintro _ v7 ⟨aq6,nq6,cq6,zq6,rfl,M,h,mq6,B⟩;replace U:=U.num M h B;clear M h B;refine⟨_,rfl,(U.bk 0 rfl),?_⟩;refine za 10 7 [.slice none 0 0] 32 (pg) ?_
     intro v8 g9 Xg9 hg9 B;replace U:=U.new Xg9 hg9 B;clear Xg9 hg9 B;refine⟨(U.bk 1 rfl),?_⟩;refine zs 11 (U.bk 0 rfl) 0 (.agg #[.slice aq6 nq6 cq6]) [.slice aq6 nq6 cq6] [.slice aq6 nq6 cq6] ?_
     intro v11 Y C;replace U:=U.put 0 rfl C Y;refine⟨(U.bk 1 rfl),?_⟩;exact aQ (aZ (⟨g9,aq6,nq6,cq6,zq6,0,0⟩:JA) ⟨U.pick 0 rfl (List.forall_mem_cons.2 ⟨aJ 0 rfl,cU 1 rfl⟩),by (try dsimp only);omega⟩ (by kernel_rfl))
    refine zaa 10 7 [.slice none 0 0] 32 (pg) ?_ ?_
    ·intro v12 g13 Xg13 hg13 B;replace U:=U.new Xg13 hg13 B;clear Xg13 hg13 B;refine⟨(U.bk 1 rfl),?_⟩;refine zc 9 39 13 #[.agg #[.slice Z D W],.agg #[.slice a1 y c1]] (lZ (U.nq 6 rfl).nat (by omega) (U.nq 1 rfl).nat (by omega)) ?_
     rintro _ v15 ⟨P,H,V,zq14,rfl,M,h,mq14,B⟩;replace U:=U.num M h B;clear M h B;refine⟨_,rfl,(U.bk 1 rfl),?_⟩;refine zs 11 (U.bk 0 rfl) 0 (.agg #[.slice P H V]) [.slice P H V] [.slice P H V] ?_
     intro v17 Y C;replace U:=U.put 0 rfl C Y;refine⟨(U.bk 1 rfl),?_⟩;exact aQ (aZ (⟨g13,P,H,V,zq14,0,0⟩:JA) ⟨U.pick 0 rfl (List.forall_mem_cons.2 ⟨aJ 0 rfl,cU 1 rfl⟩),by (try dsimp only);omega⟩ (by kernel_rfl))
    exact cJ
   clear U;rintro⟨gk,ak,kk,dk,zk,_,_⟩ v18 ⟨U,q9⟩;dsimp only at U q9;refine ay (ay (aC (t 8 (.int .i64 0) (aA (ah (ep (me (fun(j:JS)=>4 - j.k) (fun(j:JS)=>[(1,.slice ao cnt cp),(5,pg gr),(6,.int .i64 (i:Int)),(7,pg gk),(8,.int .i64 (j.k:Int))]) (fun(j:JS) w'=>Un w Bz g0 w' K E j.n N [(gk,[.slice j.a j.l j.d],32),(gr,(rC g0 gd gh s2.tk (s2.la+1) ((s2.C.length:Nat):Int) (.slice a0 n0 c0) (.slice a1 y c1) (.slice a2 n2 c2) (.slice a3 X c3) (.slice a4 n4 c4) (.slice a5 n5 c5) (.slice Z D W)),43),(gd,dC fu s2.pe ft,53),(gh,hC s2.hd,4)] ((j.z,j.a,j.l,j.d,s2.all+s2.cur+ij s2 j.k) :: (z0,a0,n0,c0,T) :: (z1,a1,y,c1,s2.cur) :: (z2,a2,n2,c2,x2) :: (z3,a3,X,c3,x3) :: (z4,a4,n4,c4,s2.giv) :: (z5,a5,n5,c5,s2.fre) :: (z6,Z,D,W,s2.all) :: dQ fu ft)/\(j.k<=4/\j.n<=n+3000 * j.k/\j.l<=D+100000+3000000001 * j.k)) (⟨0,n,ak,kk,dk,zk⟩:JS) ⟨by simpa[ij] using U.pick 0 rfl (List.forall_mem_cons.2 ⟨aJ 0 rfl,cU 1 rfl⟩),Nat.zero_le _,by (try dsimp only);omega,by (try dsimp only);omega⟩ (by kernel_rfl) ?_)))))));clear U;rintro⟨b,nj,aj,lj,dj,zj⟩ v19 ⟨U,hi4,qn,ql⟩;dsimp only at U hi4 qn ql;refine ay (ay (aC (t 40 (.int .i64 (b:Int)) ?_)));by_cases ck:(b:Int) < 4
   ·have x:b < 4:=by omega
    obtain⟨z7,a7,n7,c7,hu⟩:∃ z a n c,fu b=(z,a,n,c,s2.sh b):=⟨_,_,_,_,by rw[<- hsv b]⟩
    obtain⟨z8,a8,n8,c8,ht⟩:∃ z a n c,ft b=(z,a,n,c,s2.st b):=⟨_,_,_,_,by rw[<- htv b]⟩
    have m8:=htl b;rw[ht] at m8;dsimp only at m8
    have hp:s2.pe b=s2.pe b:=rfl;have hafx:=hafl (s2.pe b);refine tq 41 (.bool (decide ((b:Int) < 4))) (.bool true) (congrArg Value.bool (decide_eq_true ck)) (aA (ah (cM (bF (ah (ay (ep (ay (aC (t 44 (pg gr) (t 45 (pg gr) (t 46 (pq gr 12) (tl 47 (.slice (some ⟨gh,0,none⟩) 4 4) (U.bk 1 rfl) 12 (t 48 (.int .i64 (b:Int)) (tr 49 (pq gh b) (fH (by simp) (fe 1 gh 0 4 4 b x)) (tl 50 (.bool (s2.hd b)) (U.bk 3 rfl) b (hv:=Fj x) (aA (ah ?_))))))))))))))))));rcases Bool.eq_false_or_eq_true (s2.hd b) with A | A
    ·refine cM (hc:=congrArg Value.bool A) ?_
     refine eL (fun(j:JA)=>[(1,.slice ao cnt cp),(5,pg gr),(6,.int .i64 (i:Int)),(7,pg gk),(8,.int .i64 (b:Int)),(9,pg j.g)]) (fun(j:JA) w'=>Un w Bz g0 w' K E j.n j.N [(j.g,[.slice j.a j.k j.d],32),(gk,[.slice aj lj dj],32),(gr,(rC g0 gd gh s2.tk (s2.la+1) ((s2.C.length:Nat):Int) (.slice a0 n0 c0) (.slice a1 y c1) (.slice a2 n2 c2) (.slice a3 X c3) (.slice a4 n4 c4) (.slice a5 n5 c5) (.slice Z D W)),43),(gd,dC fu s2.pe ft,53),(gh,hC s2.hd,4)] ((j.z,j.a,j.k,j.d,s2.clm b) :: (zj,aj,lj,dj,s2.all+s2.cur+ij s2 b) :: (z0,a0,n0,c0,T) :: (z1,a1,y,c1,s2.cur) :: (z2,a2,n2,c2,x2) :: (z3,a3,X,c3,x3) :: (z4,a4,n4,c4,s2.giv) :: (z5,a5,n5,c5,s2.fre) :: (z6,Z,D,W,s2.all) :: dQ fu ft)/\j.n<=nj+3000/\j.N<=N/\j.N=N/\j.k<=3000000000) ?_ ?_
     ·replace U:=U.drew;refine bE (fun w'=>Blk w' gr (rC g0 gd gh s2.tk (s2.la+1) ((s2.C.length:Nat):Int) (.slice a0 n0 c0) (.slice a1 y c1) (.slice a2 n2 c2) (.slice a3 X c3) (.slice a4 n4 c4) (.slice a5 n5 c5) (.slice Z D W)) 43/\Blk w' gd (dC fu s2.pe ft) 53) (fun _=>false) ⟨(U.bk 1 rfl),(U.bk 2 rfl)⟩ ?_
      refine z 0 52 (pg gr) (z 1 53 (pg gr) (z 2 54 (pg gr) (zl 3 55 (pg g0) (fun _ h=>h.1) 0 (z 4 56 (pg gr) (z 5 57 (pg gr) (z 6 58 (pq gr 1) (zlr 7 59 [.int .u64 0,.int .u64 s2.tk,.slice a0 n0 c0,.bool false,.int .u64 0,.bool false,.int .u64 (s2.la+1),.slice a1 y c1,.slice a2 n2 c2,.slice a3 X c3] (fun _ h=>h.1) 1 (z 8 60 (pg gr) (z 9 61 (pg gr) (z 10 62 (pq gr 11) (zl 11 63 (.slice (some ⟨gd,0,none⟩) 4 4) (fun _ h=>h.1) 11 (z 12 64 (.int .i64 (b:Int)) (zr 13 65 (pq gd (b * 3)) (fun _ _=>fH (by simp) (fe 3 gd 0 4 4 b x)) (zr 14 66 (.agg #[.slice a7 n7 c7,.int .u64 (s2.pe b),.slice a8 n8 c8]) (fun _ h=>gl (vs:=[.slice a7 n7 c7,.int .u64 (s2.pe b),.slice a8 n8 c8]) h.2 (BC x hu hp ht) ⟨_,_,rfl,by kernel_rfl,by kernel_rfl⟩) (bJ [15,19] ?_)))))))))))))));refine cy 15 (some 67) 14 #[pg g0,.int .u64 16,.agg #[.int .u64 0,.int .u64 s2.tk,.slice a0 n0 c0,.bool false,.int .u64 0,.bool false,.int .u64 (s2.la+1),.slice a1 y c1,.slice a2 n2 c2,.slice a3 X c3],.agg #[.slice a7 n7 c7,.int .u64 (s2.pe b),.slice a8 n8 c8]] (jY (la:=s2.la) U.sx F (U.nq (b+4+8) (Cg (s:=fu) x ht)) (by omega) (nC x A) (by omega) (Nat.le_trans hCl (by omega)) (by omega) (by omega)) ?_ ?_
      ·rintro _ v22 ⟨u,v,f,zq21,rfl,S,C,Q,mq21,h⟩;have L:=U.lt;replace U:=(U.ask S C).add L Q h;clear L S C Q h;refine⟨_,rfl,⟨(U.bk 1 rfl),(U.bk 2 rfl)⟩,?_⟩;refine z 16 51 (.tuple #[.agg #[.slice u v f],.int .i64 (((aft s2.C (s2.pe b)).length:Nat):Int)]) (z 17 68 (.agg #[.slice u v f]) (z 18 69 (.int .i64 (((aft s2.C (s2.pe b)).length:Nat):Int)) (za 19 9 [.slice none 0 0] 32 (pg) ?_)));intro v23 g24 Xg24 hg24 B;replace U:=U.new Xg24 hg24 B;clear Xg24 hg24 B;refine⟨⟨(U.bk 2 rfl),(U.bk 3 rfl)⟩,?_⟩;refine zs 20 (U.bk 0 rfl) 0 (.agg #[.slice u v f]) [.slice u v f] [.slice u v f] ?_
       intro v26 Y C;replace U:=U.put 0 rfl C Y;refine⟨⟨(U.bk 2 rfl),(U.bk 3 rfl)⟩,?_⟩;exact z 21 10 (.int .i64 (((aft s2.C (s2.pe b)).length:Nat):Int)) (aQ (aZ (⟨g24,u,v,f,zq21,_,_⟩:JA) ⟨U.pick 0 rfl (fun r h=>h),by (try dsimp only);omega,by (try dsimp only);omega,rfl,by (try dsimp only);omega⟩ (by kernel_rfl)))
      refine zaa 19 9 [.slice none 0 0] 32 (pg) ?_ ?_
      ·intro v27 g28 Xg28 hg28 B;replace U:=U.new Xg28 hg28 B;clear Xg28 hg28 B;refine⟨⟨(U.bk 2 rfl),(U.bk 3 rfl)⟩,?_⟩;refine zc 15 67 14 #[pg g0,.int .u64 16,.agg #[.int .u64 0,.int .u64 s2.tk,.slice a0 n0 c0,.bool false,.int .u64 0,.bool false,.int .u64 (s2.la+1),.slice a1 y c1,.slice a2 n2 c2,.slice a3 X c3],.agg #[.slice a7 n7 c7,.int .u64 (s2.pe b),.slice a8 n8 c8]] (jY (la:=s2.la) U.sx F (U.nq (b+4+8) (Cg (s:=fu) x ht)) (by omega) (nC x A) (by omega) (Nat.le_trans hCl (by omega)) (by omega) (by omega)) ?_
       rintro _ v30 ⟨o,q,m,zq29,rfl,S,C,Q,mq29,h⟩;have L:=U.lt;replace U:=(U.ask S C).add L Q h;clear L S C Q h;refine⟨_,rfl,⟨(U.bk 2 rfl),(U.bk 3 rfl)⟩,?_⟩;refine z 16 51 (.tuple #[.agg #[.slice o q m],.int .i64 (((aft s2.C (s2.pe b)).length:Nat):Int)]) (z 17 68 (.agg #[.slice o q m]) (z 18 69 (.int .i64 (((aft s2.C (s2.pe b)).length:Nat):Int)) (zs 20 (U.bk 0 rfl) 0 (.agg #[.slice o q m]) [.slice o q m] [.slice o q m] ?_)));intro v32 Y C;replace U:=U.put 0 rfl C Y;refine⟨⟨(U.bk 2 rfl),(U.bk 3 rfl)⟩,?_⟩;exact z 21 10 (.int .i64 (((aft s2.C (s2.pe b)).length:Nat):Int)) (aQ (aZ (⟨g28,o,q,m,zq29,_,_⟩:JA) ⟨U.pick 0 rfl (fun r h=>h),by (try dsimp only);omega,by (try dsimp only);omega,rfl,by (try dsimp only);omega⟩ (by kernel_rfl)))
      exact cJ
     clear U;rintro⟨gx,ax,kx,dx,zx,nx,Nx1⟩ v33 ⟨U,q1,q2,q3,q4⟩;dsimp only at U q1 q2 q3 q4;subst q3;refine aC (tlr 70 [.slice aj lj dj] (U.bk 1 rfl) 0 (tlr 71 [.slice ax kx dx] (U.bk 0 rfl) 0 (tc 72 13 #[.agg #[.slice aj lj dj],.agg #[.slice ax kx dx]] (lZ (U.nq 1 rfl).nat (by omega) (U.nq 0 rfl).nat (by omega)) ?_)));rintro _ v35 ⟨R,O,G,zq34,rfl,M,h,mq34,B⟩;refine⟨_,rfl,?_⟩;replace U:=U.num M h B;clear M h B;refine ts (U.bk 1 rfl) 0 (.agg #[.slice R O G]) [.slice R O G] [.slice R O G] ?_
     intro v37 Y C;replace U:=U.put 1 rfl C Y;refine aA (gB (ah (aC (t 42 (.int .i64 (b:Int)) (tq 43 (.int .i64 (IntKind.i64.wrap ((b:Int)+1))) (.int .i64 ((b:Int)+1)) (wi (by omega)) (t 8 (.int .i64 ((b:Int)+1)) (aA ?_)))))))
     have hps:s2.all+s2.cur+ij s2 (b+1)=(s2.all+s2.cur+ij s2 b)+(s2.clm b):=by show s2.all+s2.cur+(ij s2 b+(if s2.hd b then s2.clm b else 0))=_;rw[if_pos A];omega
     exact iF ⟨b+1,_,R,O,G,zq34⟩ (by show 4 - (b+1) < 4 - b;omega) ⟨by dsimp only;rw[hps];exact U.pick 1 rfl (List.forall_mem_cons.2 ⟨aJ 0 rfl,cU 3 rfl⟩),by (try dsimp only);omega,by (try dsimp only);omega,by (try dsimp only);omega⟩ (by kernel_rfl)
    ·refine cE (hc:=congrArg Value.bool A) (bF (gB (ah (aC (t 42 (.int .i64 (b:Int)) (tq 43 (.int .i64 (IntKind.i64.wrap ((b:Int)+1))) (.int .i64 ((b:Int)+1)) (wi (by omega)) (t 8 (.int .i64 ((b:Int)+1)) (aA ?_))))))))
     have hps:s2.all+s2.cur+ij s2 (b+1)=s2.all+s2.cur+ij s2 b:=by show s2.all+s2.cur+(ij s2 b+(if s2.hd b then s2.clm b else 0))=_;rw[if_neg (by rw[A];decide)];omega
     exact iF ⟨b+1,_,aj,lj,dj,zj⟩ (by show 4 - (b+1) < 4 - b;omega) ⟨by dsimp only;rw[hps];exact U.pick 0 rfl (List.forall_mem_cons.2 ⟨aJ 0 rfl,cU 1 rfl⟩),by (try dsimp only);omega,by (try dsimp only);omega,by (try dsimp only);omega⟩ (by kernel_rfl)
   ·have hx4:b=4:=by omega
    refine tq 41 (.bool (decide ((b:Int) < 4))) (.bool false) (congrArg Value.bool (decide_eq_false ck)) (aA (ah (cE (ki (jw (jw (rQ (ah (ay ?_)))))))));replace U:=U.drew;refine bE (fun w'=>Blk w' gk [.slice aj lj dj] 32/\Blk w' gr (rC g0 gd gh s2.tk (s2.la+1) ((s2.C.length:Nat):Int) (.slice a0 n0 c0) (.slice a1 y c1) (.slice a2 n2 c2) (.slice a3 X c3) (.slice a4 n4 c4) (.slice a5 n5 c5) (.slice Z D W)) 43) (fun _=>false) ⟨(U.bk 0 rfl),(U.bk 1 rfl)⟩ ?_
    refine zlr 0 73 [.slice aj lj dj] (fun _ h=>h.1) 0 (z 1 74 (pg gr) (z 2 75 (pg gr) (z 3 76 (pq gr 14) (zlr 4 77 [.slice a4 n4 c4] (fun _ h=>h.2) 14 ?_))))
    have hle:s2.all+s2.cur+ij s2 b<=s2.giv:=by rw[hx4];exact E7 J2
    refine zc 5 78 15 #[.agg #[.slice aj lj dj],.agg #[.slice a4 n4 c4]] (dCmpLe (U.nq 0 rfl).nat (U.nq 5 rfl).nat (by omega) (by omega) hle) ?_
    rintro _ v38 ⟨r9,rfl,hr9,B⟩;replace U:=U.keep B;clear B;refine⟨_,rfl,⟨(U.bk 0 rfl),(U.bk 1 rfl)⟩,?_⟩
    have t39:¬ ((0:Int) < r9):=by omega
    exact zq 6 79 (.bool (decide ((0:Int) < r9))) (.bool false) (congrArg Value.bool (decide_eq_false t39)) (aQ (ah (cE (bF (gB (ah (aC (t 22 (.int .i64 (i:Int)) (tq 23 (.int .i64 (IntKind.i64.wrap ((i:Int)+1))) (.int .i64 ((i:Int)+1)) (wi (by omega)) (t 6 (.int .i64 ((i:Int)+1)) (aA (iF (i+1) (by show cnt - (i+1) < cnt - i;omega) ⟨hk,s2,⟨_,_,_,_,a0,n0,c0,z0,a1,y,c1,z1,a2,n2,c2,z2,a3,X,c3,z3,a4,n4,c4,z4,a5,n5,c5,z5,Z,D,W,z6,_,_,fu,ft,U.pick 1 rfl (oL (aJ 1 rfl) (aJ 2 rfl) (aJ 3 rfl) (aJ 4 rfl) (aJ 5 rfl) (aJ 6 rfl) (aJ 7 rfl) (cU 8 rfl)),F,⟨hsv,htv⟩,by omega,by omega,hul,fun j=>Nat.le_trans (htl j) (by omega)⟩,I.mono (by omega),J2⟩ (by kernel_rfl)))))))))))))
  ·refine tq 21 (.bool (decide ((i:Int) < ((cnt:Nat):Int)))) (.bool false) (congrArg Value.bool (decide_eq_false ci)) (aA (ah (cE (ki (jw (jw (rQ (ah (ay (aC (t 4 (.bool true) (aA (ah (aV (aW (.bool true) (rs1 4 (by kernel_rfl) (by kernel_rfl)) ?_)))))))))))))));exact⟨rfl,RU.bb⟩
end Fo
namespace f1Sums
open Go.RowKit Go.Lib Lim Fo
theorem walk (f:Int) (a1:Option Addr) (a c:Nat) (w:World) (d:(Lit.int .u64 f).wf=true) (w1:uN w a1 a) :
  Calls Tryz.prog 4 #[.int .u64 f,.slice a1 a c] w fun e w'=>e=.returned (.bool true)/\Below w.heap.size w w':=by
 obtain⟨b,o,h,sa,g,i,ns,cc,xs,SA⟩:=w1;exact sU (u64r d) SA
end f1Sums
end Go.Proofs.YtjejmkcjflhoiaaGreatDoor
