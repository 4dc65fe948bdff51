import Derived.Test.YtpoifdokmjhclaaGreatJyH
set_option maxRecDepth 100000
set_option maxHeartbeats 8000000
namespace Go.Proofs.YtpoifdokmjhclaaGreat
namespace Fo
open Go.RowKit Go.Lib Pg Lim Gl Kv Bk Pw Sd Di
attribute [local go_sem] Oper.semAt_some
set_option linter.unusedVariables false
set_option linter.unusedSimpArgs false
section
variable {w w0:World}{ba bf c c' nf:Nat}{d a:Option Addr}
theorem GR(a:Nat)(hb:a=w.heap.size):CP 64 #[] w λe w'=>∃ g K,e=.returned (pg g)/\Sx a w' K g [] [] 0 0/\(∀ b,K b->a<=b)/\BW w w':=by
 subst hb;refine snew.mono ?_
 rintro e w' ⟨g,K,rfl,S,c,B⟩;exact⟨g,K,rfl,⟨S.mono (λ_ _ h=>h.elim),B.size,c⟩,c,B⟩
theorem AY   : cB 56 #[.agg #[iU 1,iU 1,iU 1,iU 0,iU 0,iU 0,iU 0,iU 0,iU 0,iU 16]] w (bT):=by
 have b:=Below.refl w.heap.size w;refine af (n:=66) Tryz.func56 rfl ?_
 refine sr<|ta 1 cl6 24 (pg) ?_
 intro v1 e a c B;have b:=ae b B;refine tz 1<|nx<|tz 1<|tl 4 (.int .u64 1) a 0<|tz 3<|tl 8 (.int .u64 1) a 0<|tz 4<|tl 13 (.int .u64 1) a 1<|tz 4<|tl 18 (.int .u64 1) a 1<|tz 4<|tl 23 (.int .u64 1) a 2<|tz 4<|tl 28 (.int .u64 1) a 2<|tz 4<|tl 33 (.int .u64 0) a 3<|tz 4<|tl 38 (.int .u64 0) a 4<|tz 4<|tl 43 (.int .u64 0) a 5<|tz 4<|tl 48 (.int .u64 0) a 6<|tz 4<|tl 53 (.int .u64 0) a 7<|tz 4<|tl 58 (.int .u64 0) a 8<|tz 4<|tl 63 (.int .u64 16) a 9<|tc 64 83 #[.int .u64 16] (AA (r:=true) (by decide)) ?_
 rintro _ d ⟨rfl,B⟩;have b:=ae b B;have a:=a.keep B;refine⟨_,rfl,tz 2<|nt<|aA [(2,.bool true)]<|bB<|ah (.bool true) (rs1 2) ?_⟩;exact⟨rfl,b⟩
theorem fit_n   : cB 56 #[.agg #[iU 0,iU 1,iU 1,iU 0,iU 0,iU 0,iU 0,iU 0,iU 0,iU 16]] w (bF):=by
 have a:=Below.refl w.heap.size w;refine af (n:=66) Tryz.func56 rfl ?_
 refine sr<|ta 1 [.int .u64 0,.int .u64 1,.int .u64 1,.int .u64 0,.int .u64 0,.int .u64 0,.int .u64 0,.int .u64 0,.int .u64 0,.int .u64 16] 24 (pg) ?_
 intro v1 d b c B;have a:=ae a B;refine tz 1<|nx<|tz 1<|tl 4 (.int .u64 0) b 0<|tz 2<|tn 7<|tn 8<|tn 9<|tz 2<|tn 12<|tn 13<|tn 14<|tz 2<|tn 17<|tn 18<|tn 19<|tz 2<|tn 22<|tn 23<|tn 24<|tz 2<|tn 27<|tn 28<|tn 29<|tz 2<|tn 32<|tn 33<|tn 34<|tz 2<|tn 37<|tn 38<|tn 39<|tz 2<|tn 42<|tn 43<|tn 44<|tz 2<|tn 47<|tn 48<|tn 49<|tz 2<|tn 52<|tn 53<|tn 54<|tz 2<|tn 57<|tn 58<|tn 59<|tz 2<|tn 62<|tn 63<|tn 64<|tz 2<|nt<|aA [(2,.bool false)]<|bB<|ah (.bool false) (rs1 2) ?_
 exact⟨rfl,a⟩
theorem Dk(b:Blk w ba cl8 43)(d:Blk w bf ko 45):cB 37 #[.agg #[iU 1,iU 1,iU 1,iU 0,iU 0,iU 0,iU 0,iU 0,iU 0,iU 16,.slice (some ⟨ba,0,none⟩) 1 c,.slice (some ⟨bf,0,none⟩) 1 c']] w (iI 0):=by
 have e:=Below.refl w.heap.size w;refine af (n:=28) Tryz.func37 rfl ?_
 refine sr ?_
 have f:=b.lt;have g:=d.lt;refine ta 1 [iU 1,iU 1,iU 1,iU 0,iU 0,iU 0,iU 0,iU 0,iU 0,iU 16,.slice (some ⟨ba,0,none⟩) 1 c,.slice (some ⟨bf,0,none⟩) 1 c'] 28 (pg) ?_
 intro v1 h a i B;have e:=ae e B;have b:=b.keep B;have d:=d.keep B;refine tz 1<|nt<|ag<|aB<|sr<|tz 1<|tlr 5 cl6 a 0<|tc 6 56 #[.agg #[iU 1,iU 1,iU 1,iU 0,iU 0,iU 0,iU 0,iU 0,iU 0,iU 16]] (AY) ?_
 rintro _ j ⟨rfl,B⟩;have e:=ae e B;have b:=b.keep B;have d:=d.keep B;have a:=a.keep B;refine⟨_,rfl,tz 2<|nt<|aX<|sr<|tz 1<|tl 10 (.slice (some ⟨ba,0,none⟩) 1 c) a 10<|tc 11 57 #[.slice (some ⟨ba,0,none⟩) 1 c,.func (.func 58) #[] #[]] (vQ b) ?_⟩;rintro _ v4 ⟨rfl,B⟩;have e:=ae e B;have b:=b.keep B;have d:=d.keep B;have a:=a.keep B;refine⟨_,rfl,tz 3<|tl 15 (.slice (some ⟨ba,0,none⟩) 1 c) a 10<|tc 16 59 #[.slice (some ⟨ba,0,none⟩) 1 c,.func (.func 60) #[] #[]] (lT b) ?_⟩;rintro _ k ⟨rfl,B⟩;have e:=ae e B;have b:=b.keep B;have d:=d.keep B;have a:=a.keep B;refine⟨_,rfl,tz 2<|nt<|aA [(1,pg h),(2,iI 0),(8,bF)]<|aX<|sr<|tz 1<|tl 20 (.slice (some ⟨ba,0,none⟩) 1 c) a 10<|tc 21 61 #[.slice (some ⟨ba,0,none⟩) 1 c] (AP b) ?_⟩;rintro _ v6 ⟨rfl,B⟩;have e:=ae e B;have b:=b.keep B;have d:=d.keep B;have a:=a.keep B;refine⟨_,rfl,tz 2<|nt<|aX<|sr<|tz 1<|tl 25 (.slice (some ⟨bf,0,none⟩) 1 c') a 11<|tc 26 62 #[.slice (some ⟨bf,0,none⟩) 1 c',.func (.func 63) #[] #[]] (C8 d) ?_⟩;rintro _ l ⟨rfl,B⟩;have e:=ae e B;have b:=b.keep B;have d:=d.keep B;have a:=a.keep B;refine⟨_,rfl,tz 2<|nt<|aX<|aT<|cX<|aj<|sr<|tz 1<|nr<|ah (iI 0) (rs1 2) ?_⟩;exact⟨rfl,e⟩
theorem AB(b:Blk w ba cl8 43)(d:Blk w bf l3 45):cB 37 #[.agg #[iU 1,iU 1,iU 1,iU 0,iU 0,iU 0,iU 0,iU 0,iU 0,iU 16,.slice (some ⟨ba,0,none⟩) 1 c,.slice (some ⟨bf,0,none⟩) 1 c']] w (iI 0):=by
 have e:=Below.refl w.heap.size w;refine af (n:=28) Tryz.func37 rfl ?_
 refine sr ?_
 have f:=b.lt;have g:=d.lt;refine ta 1 [iU 1,iU 1,iU 1,iU 0,iU 0,iU 0,iU 0,iU 0,iU 0,iU 16,.slice (some ⟨ba,0,none⟩) 1 c,.slice (some ⟨bf,0,none⟩) 1 c'] 28 (pg) ?_
 intro v1 h a i B;have e:=ae e B;have b:=b.keep B;have d:=d.keep B;refine tz 1<|nt<|ag<|aB<|sr<|tz 1<|tlr 5 cl6 a 0<|tc 6 56 #[.agg #[iU 1,iU 1,iU 1,iU 0,iU 0,iU 0,iU 0,iU 0,iU 0,iU 16]] (AY) ?_
 rintro _ j ⟨rfl,B⟩;have e:=ae e B;have b:=b.keep B;have d:=d.keep B;have a:=a.keep B;refine⟨_,rfl,tz 2<|nt<|aX<|sr<|tz 1<|tl 10 (.slice (some ⟨ba,0,none⟩) 1 c) a 10<|tc 11 57 #[.slice (some ⟨ba,0,none⟩) 1 c,.func (.func 58) #[] #[]] (vQ b) ?_⟩;rintro _ v4 ⟨rfl,B⟩;have e:=ae e B;have b:=b.keep B;have d:=d.keep B;have a:=a.keep B;refine⟨_,rfl,tz 3<|tl 15 (.slice (some ⟨ba,0,none⟩) 1 c) a 10<|tc 16 59 #[.slice (some ⟨ba,0,none⟩) 1 c,.func (.func 60) #[] #[]] (lT b) ?_⟩;rintro _ k ⟨rfl,B⟩;have e:=ae e B;have b:=b.keep B;have d:=d.keep B;have a:=a.keep B;refine⟨_,rfl,tz 2<|nt<|aA [(1,pg h),(2,iI 0),(8,bF)]<|aX<|sr<|tz 1<|tl 20 (.slice (some ⟨ba,0,none⟩) 1 c) a 10<|tc 21 61 #[.slice (some ⟨ba,0,none⟩) 1 c] (AP b) ?_⟩;rintro _ v6 ⟨rfl,B⟩;have e:=ae e B;have b:=b.keep B;have d:=d.keep B;have a:=a.keep B;refine⟨_,rfl,tz 2<|nt<|aX<|sr<|tz 1<|tl 25 (.slice (some ⟨bf,0,none⟩) 1 c') a 11<|tc 26 62 #[.slice (some ⟨bf,0,none⟩) 1 c',.func (.func 63) #[] #[]] (zJ d) ?_⟩;rintro _ l ⟨rfl,B⟩;have e:=ae e B;have b:=b.keep B;have d:=d.keep B;have a:=a.keep B;refine⟨_,rfl,tz 2<|nt<|aX<|aT<|cX<|aj<|sr<|tz 1<|nr<|ah (iI 0) (rs1 2) ?_⟩;exact⟨rfl,e⟩
theorem Gh(b:Blk w ba cl7 43):cB 37 #[.agg #[iU 1,iU 1,iU 1,iU 0,iU 0,iU 0,iU 0,iU 0,iU 0,iU 16,.slice (some ⟨ba,0,none⟩) 2 c,.slice d nf c']] w (iI 213):=by
 have e:=Below.refl w.heap.size w;refine af (n:=28) Tryz.func37 rfl ?_
 refine sr ?_
 have f:=b.lt;refine ta 1 [iU 1,iU 1,iU 1,iU 0,iU 0,iU 0,iU 0,iU 0,iU 0,iU 16,.slice (some ⟨ba,0,none⟩) 2 c,.slice d nf c'] 28 (pg) ?_
 intro v1 g a h B;have e:=ae e B;have b:=b.keep B;refine tz 1<|nt<|ag<|aB<|sr<|tz 1<|tlr 5 cl6 a 0<|tc 6 56 #[.agg #[iU 1,iU 1,iU 1,iU 0,iU 0,iU 0,iU 0,iU 0,iU 0,iU 16]] (AY) ?_
 rintro _ i ⟨rfl,B⟩;have e:=ae e B;have b:=b.keep B;have a:=a.keep B;refine⟨_,rfl,tz 2<|nt<|aX<|sr<|tz 1<|tl 10 (.slice (some ⟨ba,0,none⟩) 2 c) a 10<|tc 11 57 #[.slice (some ⟨ba,0,none⟩) 2 c,.func (.func 58) #[] #[]] (Gb b) ?_⟩;rintro _ v4 ⟨rfl,B⟩;have e:=ae e B;have b:=b.keep B;have a:=a.keep B;refine⟨_,rfl,tz 2<|tn 14<|tn 15<|tn 16<|tz 2<|nt<|aA [(1,pg g),(2,iI 0),(8,bT)]<|aL<|sr<|tz 1<|nr<|kx<|bE<|ah (iI 213) (rs1 2) ?_⟩;exact⟨rfl,e⟩
theorem FX{na:Nat}  : cB 37 #[.agg #[iU 0,iU 1,iU 1,iU 0,iU 0,iU 0,iU 0,iU 0,iU 0,iU 16,.slice a na c,.slice d nf c']] w (iI 212):=by
 have e:=Below.refl w.heap.size w;refine af (n:=28) Tryz.func37 rfl ?_
 refine sr<|ta 1 [iU 0,iU 1,iU 1,iU 0,iU 0,iU 0,iU 0,iU 0,iU 0,iU 16,.slice a na c,.slice d nf c'] 28 (pg) ?_
 intro v1 h b f B;have e:=ae e B;refine tz 1<|nt<|ag<|aB<|sr<|tz 1<|tlr 5 [iU 0,iU 1,iU 1,iU 0,iU 0,iU 0,iU 0,iU 0,iU 0,iU 16] b 0<|tc 6 56 #[.agg #[iU 0,iU 1,iU 1,iU 0,iU 0,iU 0,iU 0,iU 0,iU 0,iU 16]] (fit_n) ?_
 rintro _ g ⟨rfl,B⟩;have e:=ae e B;have b:=b.keep B;refine⟨_,rfl,tz 2<|nt<|aL<|sr<|tz 1<|nr<|kx<|bE<|ah (iI 212) (rs1 2) ?_⟩;exact⟨rfl,e⟩
theorem DQ(r:Blk w0 ba cl8 43)(q:Blk w0 bf ko 45):CP 38 #[.agg #[iU 1,iU 1,iU 1,iU 0,iU 0,iU 0,iU 0,iU 0,iU 0,iU 16,.slice (some ⟨ba,0,none⟩) 1 c,.slice (some ⟨bf,0,none⟩) 1 c']] w0 λe w'=>∃ g K' n' N' B,e=.returned (.tuple #[pg g,iI 0])/\Sx B w' K' g e16 [] n' N'/\n'<=30000/\N'<=30000/\w0.heap.size<=B/\BW w0 w':=by
 have o:=Below.refl w0.heap.size w0;refine af (n:=57) Tryz.func38 rfl ?_
 refine sr<|ta 1 [iU 1,iU 1,iU 1,iU 0,iU 0,iU 0,iU 0,iU 0,iU 0,iU 16,.slice (some ⟨ba,0,none⟩) 1 c,.slice (some ⟨bf,0,none⟩) 1 c'] 28 (pg) ?_
 intro v1 x p hg2 B;have r:=r.keep B;have q:=q.keep B;have o:=ae o B;refine tz 2<|nx ?_
 obtain⟨B,hB⟩:∃ B,B=v1.heap.size:=⟨_,rfl⟩
 refine tc 11 64 #[] (GR B hB) ?_
 rintro _ w ⟨g,K,rfl,S,t,u⟩;refine⟨_,rfl,?_⟩
 have v:¬ K ba:=λk=>by
  have:=t _ k;have:=r.lt;omega
 have r:=r.keep u
 have y:¬ K bf:=λk=>by
  have:=t _ k;have:=q.lt;omega
 have q:=q.keep u
 have m:¬ K x:=λk=>by
  have:=t _ k;have:=p.lt;omega
 have p:=p.keep u;have zB:=o.size;have o:=ae o u;obtain⟨n,n0⟩:∃ n:Nat,n=0:=⟨_,rfl⟩
 obtain⟨N,N0⟩:∃ N:Nat,N=0:=⟨_,rfl⟩
 have S:Sx B w K g [] [] n N:=by
  rw[n0,N0];exact S
 have U:=dR S;refine tz 1<|nx<|tz 2<|tlr 14 cl6 (p.chg U.ta.cc m) 0<|tc 15 65 #[pg g,.agg #[iU 1,iU 1,iU 1,iU 0,iU 0,iU 0,iU 0,iU 0,iU 0,iU 16]] (lW U.ta.sx) ?_
 rintro _ v6 ⟨K3,n4,N5,rfl,S,aq,qN5,l,j⟩;have U:=U.op S l j;refine⟨_,rfl,nx<|tz 2<|tc 18 66 #[pg g,.agg #[iU 0,iU 1]] (mN U.ta.sx) ?_⟩;rintro _ v10 ⟨K7,n8,N9,rfl,S,qn8,qN9,l,j⟩;have U:=U.op S l j;refine⟨_,rfl,nt<|aA [(1,pg x),(2,.pointer none),(3,iI 0),(4,pg g)]<|ag<|sr<|tz 1<|tl 20 (.slice (some ⟨ba,0,none⟩) 1 c) (p.chg U.ta.cc m) 10<|tz 2<|nt<|aB<|bI (λs=>1 - s) (fun(s:Nat)=>[(1,pg x),(4,pg g),(20,.slice (some ⟨ba,0,none⟩) 1 c),(21,iI 1),(22,iI (s:Int))]) (λs w'=>(s=0/\∃ K' n' N',Ut w K B g [] w' K' e2 n' N' [] []/\n'<=n+950/\N'<=N+950)\/(s=1/\∃ K' n' N',Ut w K B g [] w' K' e3 n' N' [] []/\n'<=n+1010/\N'<=N+1010)) 0 (.inl ⟨rfl,⟨_,_,_,U,by omega,by omega⟩⟩) (by kernel_rfl) ?_⟩;rintro i v11 (⟨rfl,⟨K12,n13,N14,U,O,Q⟩⟩ | ⟨rfl,⟨K15,ac,N17,U,R,M⟩⟩)
 ·skip;refine sr<|tz 1<|nt<|ag<|aL<|aT<|aj<|ag<|aB<|sr<|tz 1<|tlr 25 cl8 (r.chg U.ta.cc v) 0<|ta 6 cl5 43 (pg) (U.nw ?_)
  intro v18 ab U;refine tsw (U.bk 0 rfl) cl8 (U.st 0 rfl ?_);intro v20 U;refine nt<|aN<|tz 2<|tl 28 (iU 16) (U.bk 0 rfl) 0<|tz 1<|tl 30 (iU 100) (U.bk 0 rfl) 1<|tc 31 67 #[pg g,iU 16,iU 100] (nN (sK U.ta.sx ⟨by decide,by decide⟩ ⟨by decide,by decide⟩) (show ja e2 16 100=e3 from rfl) (show gA e2 16 100=0 by decide +kernel)) ?_
  rintro _ v25 ⟨rfl,ak,an,N23,S,W,H,l,j⟩;have U:=U.op S l j;refine⟨_,rfl,aO<|cX<|aj<|aN<|tz 2<|aO ?_⟩;have U:=U.sel [] [];exact bH (1:Nat) (.inr ⟨rfl,⟨_,_,_,U,by omega,by omega⟩⟩) (by kernel_rfl)
 skip;refine sr<|tz 1<|nt<|ag<|aX<|bQ<|bC<|bC<|dg<|aj<|ag<|sr<|tz 1<|tl 34 (.slice (some ⟨bf,0,none⟩) 1 c') (p.chg U.ta.cc m) 11<|tz 2<|nt<|aB<|bI (λs=>1 - s) (fun(s:Nat)=>[(4,pg g),(34,.slice (some ⟨bf,0,none⟩) 1 c'),(35,iI 1),(36,iI (s:Int))]) (λs w'=>(s=0/\∃ K' n' N',Ut w K B g [] w' K' e3 n' N' [] []/\n'<=n + 1360/\N'<=N + 1360)\/(s=1/\∃ K' n' N',Ut w K B g [] w' K' e12 n' N' [] []/\n'<=n + 7860/\N'<=N + 7860)) 0 (.inl ⟨rfl,⟨_,_,_,U,by omega,by omega⟩⟩) (by kernel_rfl) ?_
 rintro i v26 (⟨rfl,⟨K27,ar,ao,U,I,F⟩⟩ | ⟨rfl,⟨ad,n31,aa,U,E,D⟩⟩)
 ·skip;refine sr<|tz 1<|nt<|ag<|aL<|aT<|aj<|ag<|aB<|sr<|tz 1<|tlr 39 ko (q.chg U.ta.cc y) 0<|ta 8 [iU 0,iU 0,iU 0] 45 (pg) (U.nw ?_)
  intro v33 h U;refine tsw (U.bk 0 rfl) ko (U.st 0 rfl ?_);intro ai U;refine nx<|tz 2<|tl 43 (iU 16) (U.bk 0 rfl) 0<|tz 1<|tl 45 (iU 500) (U.bk 0 rfl) 1<|tz 1<|tl 47 (iU 10) (U.bk 0 rfl) 2<|tc 48 68 #[pg g,iU 16,iU 500,iU 10] (AQ U.ta.sx  (by omega) (by omega)) ?_
  rintro _ al ⟨f,d,a,V,Z,n38,N39,rfl,S,G,X,l,j,Q0,Y,P⟩;have T:=ne3 P U.ta.size;have L:=U.lt;have U:=(U.op S l j).add L Q0 P;refine⟨_,rfl,tz 3<|ta 9 [zS] 55 (pg) (U.nw ?_)⟩;intro am z U;refine tsw (U.bk 0 rfl) [.slice f d a] (U.st 0 rfl ?_);intro ap U;refine tz 1<|nt<|aA [(4,pg g),(8,pg h),(9,pg z),(10,iI 0),(34,.slice (some ⟨bf,0,none⟩) 1 c'),(35,iI 1),(36,iI 0),(37,bT),(38,pg bf),(39,.agg #[iU 16,iU 500,iU 10]),(40,.tuple #[.agg #[.slice f d a],iI 0]),(41,pg g),(42,pg h),(43,iU 16),(44,pq h 1),(45,iU 500),(46,pq h 2),(47,iU 10),(48,.tuple #[.agg #[.slice f d a],iI 0]),(49,.agg #[.slice f d a]),(50,iI 0)]<|sr<|tz 2<|nt<|aX<|aT<|cX<|aj<|aN<|tz 2<|aO ?_
  have U:=U.sel [] [];exact bH (1:Nat) (.inr ⟨rfl,⟨_,_,_,U,by omega,by omega⟩⟩) (by kernel_rfl)
 skip;refine sr<|tz 1<|nt<|ag<|aX<|bQ<|bC<|bC<|dg<|aj<|sr<|tz 1<|tc 55 69 #[pg g] (Fk U.ta.sx (by omega) (by omega)) ?_
 rintro _ v48 ⟨A,au,n45,N46,rfl,S,C,J,l,j⟩;have U:=U.op S l j;refine⟨_,rfl,nx<|tz 3<|nr<|ah (.tuple #[pg g,iI 0]) (rs2 2 3) ?_⟩;exact⟨g,_,_,_,B,rfl,U.ta.sx,by omega,by omega,by omega,o.trans (U.ta.cc.below (λb k=>by have:=t b k;omega) o.size)⟩
theorem D0(m:Blk w0 ba cl8 43)(l:Blk w0 bf l3 45):cB 38 #[.agg #[iU 1,iU 1,iU 1,iU 0,iU 0,iU 0,iU 0,iU 0,iU 0,iU 16,.slice (some ⟨ba,0,none⟩) 1 c,.slice (some ⟨bf,0,none⟩) 1 c']] w0 (.tuple #[.pointer none,iI 215]):=by
 have e:=Below.refl w0.heap.size w0;refine af (n:=57) Tryz.func38 rfl ?_
 refine sr<|ta 1 [iU 1,iU 1,iU 1,iU 0,iU 0,iU 0,iU 0,iU 0,iU 0,iU 16,.slice (some ⟨ba,0,none⟩) 1 c,.slice (some ⟨bf,0,none⟩) 1 c'] 28 (pg) ?_
 intro v1 u j hg2 B;have m:=m.keep B;have l:=l.keep B;have e:=ae e B;refine tz 2<|nx ?_
 obtain⟨B,W⟩:∃ B,B=v1.heap.size:=⟨_,rfl⟩
 refine tc 11 64 #[] (GR B W) ?_
 rintro _ w ⟨g,K,rfl,S,o,p⟩;refine⟨_,rfl,?_⟩
 have r:¬ K ba:=λk=>by
  have:=o _ k;have:=m.lt;omega
 have m:=m.keep p
 have v:¬ K bf:=λk=>by
  have:=o _ k;have:=l.lt;omega
 have l:=l.keep p
 have d:¬ K u:=λk=>by
  have:=o _ k;have:=j.lt;omega
 have j:=j.keep p;have zB:=e.size;have e:=ae e p;obtain⟨n,n0⟩:∃ n:Nat,n=0:=⟨_,rfl⟩
 obtain⟨N,N0⟩:∃ N:Nat,N=0:=⟨_,rfl⟩
 have S:Sx B w K g [] [] n N:=by
  rw[n0,N0];exact S
 have U:=dR S;refine tz 1<|nx<|tz 2<|tlr 14 cl6 (j.chg U.ta.cc d) 0<|tc 15 65 #[pg g,.agg #[iU 1,iU 1,iU 1,iU 0,iU 0,iU 0,iU 0,iU 0,iU 0,iU 16]] (lW U.ta.sx) ?_
 rintro _ v6 ⟨K3,n4,N5,rfl,S,T,ad,h,f⟩;have U:=U.op S h f;refine⟨_,rfl,nx<|tz 2<|tc 18 66 #[pg g,.agg #[iU 0,iU 1]] (mN U.ta.sx) ?_⟩;rintro _ v10 ⟨K7,n8,N9,rfl,S,qn8,Z,h,f⟩;have U:=U.op S h f;refine⟨_,rfl,nt<|aA [(1,pg u),(2,.pointer none),(3,iI 0),(4,pg g)]<|ag<|sr<|tz 1<|tl 20 (.slice (some ⟨ba,0,none⟩) 1 c) (j.chg U.ta.cc d) 10<|tz 2<|nt<|aB<|bI (λs=>1 - s) (fun(s:Nat)=>[(1,pg u),(4,pg g),(20,.slice (some ⟨ba,0,none⟩) 1 c),(21,iI 1),(22,iI (s:Int))]) (λs q=>(s=0/\∃ K' n' N',Ut w K B g [] q K' e2 n' N' [] []/\n'<=n+950/\N'<=N+950)\/(s=1/\∃ K' n' N',Ut w K B g [] q K' e3 n' N' [] []/\n'<=n+1010/\N'<=N+1010)) 0 (.inl ⟨rfl,⟨_,_,_,U,by omega,by omega⟩⟩) (by kernel_rfl) ?_⟩;rintro i v11 (⟨rfl,⟨Y,n13,N14,U,D,E⟩⟩ | ⟨rfl,⟨K15,M,ac,U,F,A⟩⟩)
 ·skip;refine sr<|tz 1<|nt<|ag<|aL<|aT<|aj<|ag<|aB<|sr<|tz 1<|tlr 25 cl8 (m.chg U.ta.cc r) 0<|ta 6 cl5 43 (pg) (U.nw ?_)
  intro v18 J U;refine tsw (U.bk 0 rfl) cl8 (U.st 0 rfl ?_);intro v20 U;refine nt<|aN<|tz 2<|tl 28 (iU 16) (U.bk 0 rfl) 0<|tz 1<|tl 30 (iU 100) (U.bk 0 rfl) 1<|tc 31 67 #[pg g,iU 16,iU 100] (nN (sK U.ta.sx ⟨by decide,by decide⟩ ⟨by decide,by decide⟩) (show ja e2 16 100=e3 from rfl) (show gA e2 16 100=0 by decide +kernel)) ?_
  rintro _ v25 ⟨rfl,O,Q,aa,S,G,y,h,f⟩;have U:=U.op S h f;refine⟨_,rfl,aO<|cX<|aj<|aN<|tz 2<|aO ?_⟩;have U:=U.sel [] [];exact bH (1:Nat) (.inr ⟨rfl,⟨_,_,_,U,by omega,by omega⟩⟩) (by kernel_rfl)
 skip;refine sr<|tz 1<|nt<|ag<|aX<|bQ<|bC<|bC<|dg<|aj<|ag<|sr<|tz 1<|tl 34 (.slice (some ⟨bf,0,none⟩) 1 c') (j.chg U.ta.cc d) 11<|tz 2<|nt<|aB<|bI (λs=>1 - s) (fun(s:Nat)=>[(4,pg g),(34,.slice (some ⟨bf,0,none⟩) 1 c'),(35,iI 1),(36,iI (s:Int))]) (λs q=>s=0/\∃ K' n' N',Ut w K B g [] q K' e3 n' N' [] []/\n'<=n + 1360/\N'<=N + 1360) 0 ⟨rfl,⟨_,_,_,U,by omega,by omega⟩⟩ (by kernel_rfl) ?_
 rintro i v26 ⟨rfl,⟨ai,V,R,U,z,x⟩⟩;refine sr<|tz 1<|nt<|ag<|aL<|aT<|aj<|ag<|aB<|sr<|tz 1<|tlr 39 l3 (l.chg U.ta.cc v) 0<|ta 8 [iU 0,iU 0,iU 0] 45 (pg) (U.nw ?_)
 intro v30 a U;refine tsw (U.bk 0 rfl) l3 (U.st 0 rfl ?_);intro I U;refine nx<|tz 2<|tl 43 (iU 17) (U.bk 0 rfl) 0<|tz 1<|tl 45 (iU 500) (U.bk 0 rfl) 1<|tz 1<|tl 47 (iU 10) (U.bk 0 rfl) 2<|tc 48 68 #[pg g,iU 17,iU 500,iU 10] (Ay U.ta.sx  (by omega) (by omega)) ?_
 rintro _ v36 ⟨ab,n34,X,rfl,S,C,H,h,f⟩;have L:=U.lt;have U:=U.op S h f;refine⟨_,rfl,tz 3<|ta 9 [zS] 55 (pg) (U.nw ?_)⟩;intro v37 t U;refine tsw (U.bk 0 rfl) [zS] (U.st 0 rfl ?_);intro P U;refine tz 1<|nt<|aA [(4,pg g),(8,pg a),(9,pg t),(10,iI 90),(34,.slice (some ⟨bf,0,none⟩) 1 c'),(35,iI 1),(36,iI 0),(37,bT),(38,pg bf),(39,.agg #[iU 17,iU 500,iU 10]),(40,.tuple #[.agg #[zS],iI 90]),(41,pg g),(42,pg a),(43,iU 17),(44,pq a 1),(45,iU 500),(46,pq a 2),(47,iU 10),(48,.tuple #[.agg #[zS],iI 90]),(49,.agg #[zS]),(50,iI 90)]<|sr<|tz 2<|nt<|aL<|sr<|tz 2<|nr<|kx<|bE<|bE<|kx<|bE<|ah (.tuple #[.pointer none,iI 215]) (rs2 2 3) ?_
 exact⟨rfl,e.trans (U.ta.cc.below (λb k=>by have:=o b k;omega) e.size)⟩
end
end Fo
end Go.Proofs.YtpoifdokmjhclaaGreat
