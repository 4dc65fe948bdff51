import Derived.Test.YtpoifdokmjhclaaGreatJgO
set_option maxRecDepth 100000
set_option maxHeartbeats 8000000
namespace Go.Proofs.YtpoifdokmjhclaaGreat
namespace Fo
open Go.RowKit Go.Lib Pg Lim Gl Kv Bk Pw Sd Di
attribute [local go_sem] Oper.semAt_some
set_option linter.unusedVariables false
set_option linter.unusedSimpArgs false
section
variable {w w0:World}{ba bf c c' nf:Nat}{d a:Option Addr}
theorem Fu(a:Nat)(hb:a=w.heap.size):Calls Tryz.prog 64 #[] w fun e w'=>∃ g K,e=.returned (pg g)/\Sx a w' K g [] [] 0 0/\(∀ b,K b->a<=b)/\Below w.heap.size w w':=by
 subst hb;refine snew.mono ?_
 rintro e w' ⟨g,K,rfl,S,c,B⟩;exact⟨g,K,rfl,⟨S.mono (fun _ _ h=>h.elim),B.size,c⟩,c,B⟩
theorem Aa   : cB 56 #[.agg #[.int .u64 1,.int .u64 1,.int .u64 1,.int .u64 0,.int .u64 0,.int .u64 0,.int .u64 0,.int .u64 0,.int .u64 0,.int .u64 16]] w (.bool true):=by
 have b:=Below.refl w.heap.size w;refine af (n:=66) Tryz.func56 rfl ?_
 refine sr<|ta 1 [.int .u64 1,.int .u64 1,.int .u64 1,.int .u64 0,.int .u64 0,.int .u64 0,.int .u64 0,.int .u64 0,.int .u64 0,.int .u64 16] 24 (pg) ?_
 intro v1 e a c B;replace b:=ae b B;clear B;refine tz 1<|nx<|tz 1<|tl 4 (.int .u64 1) a 0<|tz 3<|tl 8 (.int .u64 1) a 0<|tz 4<|tl 13 (.int .u64 1) a 1<|tz 4<|tl 18 (.int .u64 1) a 1<|tz 4<|tl 23 (.int .u64 1) a 2<|tz 4<|tl 28 (.int .u64 1) a 2<|tz 4<|tl 33 (.int .u64 0) a 3<|tz 4<|tl 38 (.int .u64 0) a 4<|tz 4<|tl 43 (.int .u64 0) a 5<|tz 4<|tl 48 (.int .u64 0) a 6<|tz 4<|tl 53 (.int .u64 0) a 7<|tz 4<|tl 58 (.int .u64 0) a 8<|tz 4<|tl 63 (.int .u64 16) a 9<|tc 64 83 #[.int .u64 16] (zD (r:=true) (by decide)) ?_
 rintro _ d ⟨rfl,B⟩;refine⟨_,rfl,?_⟩;replace b:=ae b B;replace a:=a.keep B;clear B;refine tz 2<|nt<|ay [(2,.bool true)]<|bh<|ah (.bool true) (rs1 2) ?_
 exact⟨rfl,b⟩
theorem fit_n   : cB 56 #[.agg #[.int .u64 0,.int .u64 1,.int .u64 1,.int .u64 0,.int .u64 0,.int .u64 0,.int .u64 0,.int .u64 0,.int .u64 0,.int .u64 16]] w (.bool false):=by
 have a:=Below.refl w.heap.size w;refine af (n:=66) Tryz.func56 rfl ?_
 refine sr<|ta 1 [.int .u64 0,.int .u64 1,.int .u64 1,.int .u64 0,.int .u64 0,.int .u64 0,.int .u64 0,.int .u64 0,.int .u64 0,.int .u64 16] 24 (pg) ?_
 intro v1 d b c B;replace a:=ae a B;clear B;refine tz 1<|nx<|tz 1<|tl 4 (.int .u64 0) b 0<|tz 2<|tn 7<|tn 8<|tn 9<|tz 2<|tn 12<|tn 13<|tn 14<|tz 2<|tn 17<|tn 18<|tn 19<|tz 2<|tn 22<|tn 23<|tn 24<|tz 2<|tn 27<|tn 28<|tn 29<|tz 2<|tn 32<|tn 33<|tn 34<|tz 2<|tn 37<|tn 38<|tn 39<|tz 2<|tn 42<|tn 43<|tn 44<|tz 2<|tn 47<|tn 48<|tn 49<|tz 2<|tn 52<|tn 53<|tn 54<|tz 2<|tn 57<|tn 58<|tn 59<|tz 2<|tn 62<|tn 63<|tn 64<|tz 2<|nt<|ay [(2,.bool false)]<|bh<|ah (.bool false) (rs1 2) ?_
 exact⟨rfl,a⟩
theorem Cp(b:Blk w ba [.int .u64 16,.int .u64 100] 43)(d:Blk w bf [.int .u64 16,.int .u64 500,.int .u64 10] 45):cB 37 #[.agg #[.int .u64 1,.int .u64 1,.int .u64 1,.int .u64 0,.int .u64 0,.int .u64 0,.int .u64 0,.int .u64 0,.int .u64 0,.int .u64 16,.slice (some ⟨ba,0,none⟩) 1 c,.slice (some ⟨bf,0,none⟩) 1 c']] w (.int .i64 0):=by
 have e:=Below.refl w.heap.size w;refine af (n:=28) Tryz.func37 rfl ?_
 refine sr ?_
 have f:=b.lt;have g:=d.lt;refine ta 1 [iU 1,iU 1,iU 1,iU 0,iU 0,iU 0,iU 0,iU 0,iU 0,iU 16,.slice (some ⟨ba,0,none⟩) 1 c,.slice (some ⟨bf,0,none⟩) 1 c'] 28 (pg) ?_
 intro v1 h a i B;replace e:=ae e B;replace b:=b.keep B;replace d:=d.keep B;refine tz 1<|nt<|ag<|aB<|sr<|tz 1<|tlr 5 [iU 1,iU 1,iU 1,iU 0,iU 0,iU 0,iU 0,iU 0,iU 0,iU 16] a 0<|tc 6 56 #[.agg #[iU 1,iU 1,iU 1,iU 0,iU 0,iU 0,iU 0,iU 0,iU 0,iU 16]] (Aa) ?_
 rintro _ j ⟨rfl,B⟩;refine⟨_,rfl,?_⟩;replace e:=ae e B;replace b:=b.keep B;replace d:=d.keep B;replace a:=a.keep B;refine tz 2<|nt<|aY<|sr<|tz 1<|tl 10 (.slice (some ⟨ba,0,none⟩) 1 c) a 10<|tc 11 57 #[.slice (some ⟨ba,0,none⟩) 1 c,.func (.func 58) #[] #[]] (uY b) ?_
 rintro _ v4 ⟨rfl,B⟩;refine⟨_,rfl,?_⟩;replace e:=ae e B;replace b:=b.keep B;replace d:=d.keep B;replace a:=a.keep B;refine tz 3<|tl 15 (.slice (some ⟨ba,0,none⟩) 1 c) a 10<|tc 16 59 #[.slice (some ⟨ba,0,none⟩) 1 c,.func (.func 60) #[] #[]] (lx b) ?_
 rintro _ l ⟨rfl,B⟩;refine⟨_,rfl,?_⟩;replace e:=ae e B;replace b:=b.keep B;replace d:=d.keep B;replace a:=a.keep B;refine tz 2<|nt<|ay [(1,pg h),(2,iI 0),(8,bF)]<|aY<|sr<|tz 1<|tl 20 (.slice (some ⟨ba,0,none⟩) 1 c) a 10<|tc 21 61 #[.slice (some ⟨ba,0,none⟩) 1 c] (zR b) ?_
 rintro _ v6 ⟨rfl,B⟩;refine⟨_,rfl,?_⟩;replace e:=ae e B;replace b:=b.keep B;replace d:=d.keep B;replace a:=a.keep B;refine tz 2<|nt<|aY<|sr<|tz 1<|tl 25 (.slice (some ⟨bf,0,none⟩) 1 c') a 11<|tc 26 62 #[.slice (some ⟨bf,0,none⟩) 1 c',.func (.func 63) #[] #[]] (Cf d) ?_
 rintro _ k ⟨rfl,B⟩;refine⟨_,rfl,?_⟩;replace e:=ae e B;replace b:=b.keep B;replace d:=d.keep B;replace a:=a.keep B;refine tz 2<|nt<|aY<|aU<|dc<|ai<|sr<|tz 1<|nr<|ah (iI 0) (rs1 2) ?_
 exact⟨rfl,e⟩
theorem zI(b:Blk w ba [.int .u64 16,.int .u64 100] 43)(d:Blk w bf [.int .u64 17,.int .u64 500,.int .u64 10] 45):cB 37 #[.agg #[.int .u64 1,.int .u64 1,.int .u64 1,.int .u64 0,.int .u64 0,.int .u64 0,.int .u64 0,.int .u64 0,.int .u64 0,.int .u64 16,.slice (some ⟨ba,0,none⟩) 1 c,.slice (some ⟨bf,0,none⟩) 1 c']] w (.int .i64 0):=by
 have e:=Below.refl w.heap.size w;refine af (n:=28) Tryz.func37 rfl ?_
 refine sr ?_
 have f:=b.lt;have g:=d.lt;refine ta 1 [iU 1,iU 1,iU 1,iU 0,iU 0,iU 0,iU 0,iU 0,iU 0,iU 16,.slice (some ⟨ba,0,none⟩) 1 c,.slice (some ⟨bf,0,none⟩) 1 c'] 28 (pg) ?_
 intro v1 h a i B;replace e:=ae e B;replace b:=b.keep B;replace d:=d.keep B;refine tz 1<|nt<|ag<|aB<|sr<|tz 1<|tlr 5 [iU 1,iU 1,iU 1,iU 0,iU 0,iU 0,iU 0,iU 0,iU 0,iU 16] a 0<|tc 6 56 #[.agg #[iU 1,iU 1,iU 1,iU 0,iU 0,iU 0,iU 0,iU 0,iU 0,iU 16]] (Aa) ?_
 rintro _ j ⟨rfl,B⟩;refine⟨_,rfl,?_⟩;replace e:=ae e B;replace b:=b.keep B;replace d:=d.keep B;replace a:=a.keep B;refine tz 2<|nt<|aY<|sr<|tz 1<|tl 10 (.slice (some ⟨ba,0,none⟩) 1 c) a 10<|tc 11 57 #[.slice (some ⟨ba,0,none⟩) 1 c,.func (.func 58) #[] #[]] (uY b) ?_
 rintro _ v4 ⟨rfl,B⟩;refine⟨_,rfl,?_⟩;replace e:=ae e B;replace b:=b.keep B;replace d:=d.keep B;replace a:=a.keep B;refine tz 3<|tl 15 (.slice (some ⟨ba,0,none⟩) 1 c) a 10<|tc 16 59 #[.slice (some ⟨ba,0,none⟩) 1 c,.func (.func 60) #[] #[]] (lx b) ?_
 rintro _ l ⟨rfl,B⟩;refine⟨_,rfl,?_⟩;replace e:=ae e B;replace b:=b.keep B;replace d:=d.keep B;replace a:=a.keep B;refine tz 2<|nt<|ay [(1,pg h),(2,iI 0),(8,bF)]<|aY<|sr<|tz 1<|tl 20 (.slice (some ⟨ba,0,none⟩) 1 c) a 10<|tc 21 61 #[.slice (some ⟨ba,0,none⟩) 1 c] (zR b) ?_
 rintro _ v6 ⟨rfl,B⟩;refine⟨_,rfl,?_⟩;replace e:=ae e B;replace b:=b.keep B;replace d:=d.keep B;replace a:=a.keep B;refine tz 2<|nt<|aY<|sr<|tz 1<|tl 25 (.slice (some ⟨bf,0,none⟩) 1 c') a 11<|tc 26 62 #[.slice (some ⟨bf,0,none⟩) 1 c',.func (.func 63) #[] #[]] (yJ d) ?_
 rintro _ k ⟨rfl,B⟩;refine⟨_,rfl,?_⟩;replace e:=ae e B;replace b:=b.keep B;replace d:=d.keep B;replace a:=a.keep B;refine tz 2<|nt<|aY<|aU<|dc<|ai<|sr<|tz 1<|nr<|ah (iI 0) (rs1 2) ?_
 exact⟨rfl,e⟩
theorem EZ(b:Blk w ba [.int .u64 16,.int .u64 100,.int .u64 16,.int .u64 100] 43):cB 37 #[.agg #[.int .u64 1,.int .u64 1,.int .u64 1,.int .u64 0,.int .u64 0,.int .u64 0,.int .u64 0,.int .u64 0,.int .u64 0,.int .u64 16,.slice (some ⟨ba,0,none⟩) 2 c,.slice d nf c']] w (.int .i64 213):=by
 have e:=Below.refl w.heap.size w;refine af (n:=28) Tryz.func37 rfl ?_
 refine sr ?_
 have f:=b.lt;refine ta 1 [iU 1,iU 1,iU 1,iU 0,iU 0,iU 0,iU 0,iU 0,iU 0,iU 16,.slice (some ⟨ba,0,none⟩) 2 c,.slice d nf c'] 28 (pg) ?_
 intro v1 g a h B;replace e:=ae e B;replace b:=b.keep B;refine tz 1<|nt<|ag<|aB<|sr<|tz 1<|tlr 5 [iU 1,iU 1,iU 1,iU 0,iU 0,iU 0,iU 0,iU 0,iU 0,iU 16] a 0<|tc 6 56 #[.agg #[iU 1,iU 1,iU 1,iU 0,iU 0,iU 0,iU 0,iU 0,iU 0,iU 16]] (Aa) ?_
 rintro _ i ⟨rfl,B⟩;refine⟨_,rfl,?_⟩;replace e:=ae e B;replace b:=b.keep B;replace a:=a.keep B;refine tz 2<|nt<|aY<|sr<|tz 1<|tl 10 (.slice (some ⟨ba,0,none⟩) 2 c) a 10<|tc 11 57 #[.slice (some ⟨ba,0,none⟩) 2 c,.func (.func 58) #[] #[]] (EU b) ?_
 rintro _ v4 ⟨rfl,B⟩;refine⟨_,rfl,?_⟩;replace e:=ae e B;replace b:=b.keep B;replace a:=a.keep B;refine tz 2<|tn 14<|tn 15<|tn 16<|tz 2<|nt<|ay [(1,pg g),(2,iI 0),(8,bT)]<|aJ<|sr<|tz 1<|nr<|hH<|bN<|ah (iI 213) (rs1 2) ?_
 exact⟨rfl,e⟩
theorem EK{na:Nat}  : cB 37 #[.agg #[.int .u64 0,.int .u64 1,.int .u64 1,.int .u64 0,.int .u64 0,.int .u64 0,.int .u64 0,.int .u64 0,.int .u64 0,.int .u64 16,.slice a na c,.slice d nf c']] w (.int .i64 212):=by
 have e:=Below.refl w.heap.size w;refine af (n:=28) Tryz.func37 rfl ?_
 refine sr<|ta 1 [iU 0,iU 1,iU 1,iU 0,iU 0,iU 0,iU 0,iU 0,iU 0,iU 16,.slice a na c,.slice d nf c'] 28 (pg) ?_
 intro v1 h b f B;replace e:=ae e B;refine tz 1<|nt<|ag<|aB<|sr<|tz 1<|tlr 5 [iU 0,iU 1,iU 1,iU 0,iU 0,iU 0,iU 0,iU 0,iU 0,iU 16] b 0<|tc 6 56 #[.agg #[iU 0,iU 1,iU 1,iU 0,iU 0,iU 0,iU 0,iU 0,iU 0,iU 16]] (fit_n) ?_
 rintro _ g ⟨rfl,B⟩;refine⟨_,rfl,?_⟩;replace e:=ae e B;replace b:=b.keep B;refine tz 2<|nt<|aJ<|sr<|tz 1<|nr<|hH<|bN<|ah (iI 212) (rs1 2) ?_
 exact⟨rfl,e⟩
theorem CP(r:Blk w0 ba [.int .u64 16,.int .u64 100] 43)(q:Blk w0 bf [.int .u64 16,.int .u64 500,.int .u64 10] 45):Calls Tryz.prog 38 #[.agg #[.int .u64 1,.int .u64 1,.int .u64 1,.int .u64 0,.int .u64 0,.int .u64 0,.int .u64 0,.int .u64 0,.int .u64 0,.int .u64 16,.slice (some ⟨ba,0,none⟩) 1 c,.slice (some ⟨bf,0,none⟩) 1 c']] w0 fun e w'=>∃ g K' n' N' B,e=.returned (.tuple #[pg g,.int .i64 0])/\Sx B w' K' g e16 [] n' N'/\n'<=30000/\N'<=30000/\w0.heap.size<=B/\Below w0.heap.size w0 w':=by
 have o:=Below.refl w0.heap.size w0;refine af (n:=57) Tryz.func38 rfl ?_
 refine sr<|ta 1 [iU 1,iU 1,iU 1,iU 0,iU 0,iU 0,iU 0,iU 0,iU 0,iU 16,.slice (some ⟨ba,0,none⟩) 1 c,.slice (some ⟨bf,0,none⟩) 1 c'] 28 (pg) ?_
 intro v1 y p hg2 B;replace r:=r.keep B;replace q:=q.keep B;replace o:=ae o B;clear B;refine tz 2<|nx ?_
 obtain⟨B,hB⟩:∃ B,B=v1.heap.size:=⟨_,rfl⟩
 refine tc 11 64 #[] (Fu B hB) ?_
 rintro _ w ⟨g,K,rfl,S,u,t⟩;refine⟨_,rfl,?_⟩
 have v:¬ K ba:=fun k=>by
  have:=u _ k;have:=r.lt;omega
 replace r:=r.keep t
 have z:¬ K bf:=fun k=>by
  have:=u _ k;have:=q.lt;omega
 replace q:=q.keep t
 have m:¬ K y:=fun k=>by
  have:=u _ k;have:=p.lt;omega
 replace p:=p.keep t;have zB:=o.size;replace o:=ae o t;clear t;obtain⟨n,n0⟩:∃ n:Nat,n=0:=⟨_,rfl⟩
 obtain⟨N,N0⟩:∃ N:Nat,N=0:=⟨_,rfl⟩
 replace S:Sx B w K g [] [] n N:=by
  rw[n0,N0];exact S
 have U:=dJ S;refine tz 1<|nx<|tz 2<|tlr 14 [iU 1,iU 1,iU 1,iU 0,iU 0,iU 0,iU 0,iU 0,iU 0,iU 16] (p.chg U.ta.cc m) 0<|tc 15 65 #[pg g,.agg #[iU 1,iU 1,iU 1,iU 0,iU 0,iU 0,iU 0,iU 0,iU 0,iU 16]] (lB U.ta.sx (by omega) (by omega)) ?_
 rintro _ v6 ⟨K3,n4,N5,rfl,S,ar,qN5,j,h⟩;replace U:=U.op S j h;refine⟨_,rfl,nx<|tz 2<|tc 18 66 #[pg g,.agg #[iU 0,iU 1]] (me U.ta.sx (by omega) (by omega)) ?_⟩;rintro _ v10 ⟨K7,n8,N9,rfl,S,qn8,qN9,j,h⟩;replace U:=U.op S j h;refine⟨_,rfl,nt<|ay [(1,pg y),(2,.pointer none),(3,iI 0),(4,pg g)]<|ag<|sr<|tz 1<|tl 20 (.slice (some ⟨ba,0,none⟩) 1 c) (p.chg U.ta.cc m) 10<|tz 2<|nt<|aB<|bH (fun s=>1 - s) (fun(s:Nat)=>[(1,pg y),(4,pg g),(20,.slice (some ⟨ba,0,none⟩) 1 c),(21,iI 1),(22,iI (s:Int))]) (fun s w'=>(s=0/\∃ K' n' N',Ut w K B g [] w' K' e2 n' N' [] []/\n'<=n+950/\N'<=N+950)\/(s=1/\∃ K' n' N',Ut w K B g [] w' K' e3 n' N' [] []/\n'<=n+1010/\N'<=N+1010)) 0 (.inl ⟨rfl,⟨_,_,_,U,by omega,by omega⟩⟩) (by kernel_rfl) ?_⟩;clear U;rintro i v11 (⟨rfl,⟨K12,n13,N14,U,P,Q⟩⟩ | ⟨rfl,⟨K15,ad,N17,U,R,O⟩⟩)
 ·skip;refine sr<|tz 1<|nt<|ag<|aJ<|aU<|ai<|ag<|aB<|sr<|tz 1<|tlr 25 [iU 16,iU 100] (r.chg U.ta.cc v) 0<|ta 6 [iU 0,iU 0] 43 (pg) (U.nw ?_)
  intro v18 ac U;refine tsw (U.bk 0 rfl) [iU 16,iU 100] (U.st 0 rfl ?_);intro v20 U;refine nt<|aN<|tz 2<|tl 28 (iU 16) (U.bk 0 rfl) 0<|tz 1<|tl 30 (iU 100) (U.bk 0 rfl) 1<|tc 31 67 #[pg g,iU 16,iU 100] (mT (rP U.ta.sx ⟨by decide,by decide⟩ ⟨by decide,by decide⟩ (by omega) (by omega)) (show iQ e2 16 100=e3 from rfl) (show gj e2 16 100=0 by decide +kernel)) ?_
  rintro _ v25 ⟨rfl,al,ao,N23,S,W,I,j,h⟩;replace U:=U.op S j h;refine⟨_,rfl,aO<|dc<|ai<|aN<|tz 2<|aO ?_⟩;replace U:=U.sel [] [];exact bQ (1:Nat) (by decide) (.inr ⟨rfl,⟨_,_,_,U,by omega,by omega⟩⟩) (by kernel_rfl)
 ·skip;refine sr<|tz 1<|nt<|ag<|aY<|bR<|bC<|bC<|dm<|ai<|ag<|sr<|tz 1<|tl 34 (.slice (some ⟨bf,0,none⟩) 1 c') (p.chg U.ta.cc m) 11<|tz 2<|nt<|aB<|bH (fun s=>1 - s) (fun(s:Nat)=>[(4,pg g),(34,.slice (some ⟨bf,0,none⟩) 1 c'),(35,iI 1),(36,iI (s:Int))]) (fun s w'=>(s=0/\∃ K' n' N',Ut w K B g [] w' K' e3 n' N' [] []/\n'<=n + 1360/\N'<=N + 1360)\/(s=1/\∃ K' n' N',Ut w K B g [] w' K' e12 n' N' [] []/\n'<=n + 7860/\N'<=N + 7860)) 0 (.inl ⟨rfl,⟨_,_,_,U,by omega,by omega⟩⟩) (by kernel_rfl) ?_
  clear U;rintro i v26 (⟨rfl,⟨K27,au,ap,U,J,G⟩⟩ | ⟨rfl,⟨aj,n31,ab,U,F,E⟩⟩)
  ·skip;refine sr<|tz 1<|nt<|ag<|aJ<|aU<|ai<|ag<|aB<|sr<|tz 1<|tlr 39 [iU 16,iU 500,iU 10] (q.chg U.ta.cc z) 0<|ta 8 [iU 0,iU 0,iU 0] 45 (pg) (U.nw ?_)
   intro v33 l U;refine tsw (U.bk 0 rfl) [iU 16,iU 500,iU 10] (U.st 0 rfl ?_);intro ak U;refine nx<|tz 2<|tl 43 (iU 16) (U.bk 0 rfl) 0<|tz 1<|tl 45 (iU 500) (U.bk 0 rfl) 1<|tz 1<|tl 47 (iU 10) (U.bk 0 rfl) 2<|tc 48 68 #[pg g,iU 16,iU 500,iU 10] (zU U.ta.sx  (by omega) (by omega)) ?_
   rintro _ am ⟨f,d,a,V,aa,n38,N39,rfl,S,H,X,j,h,Z,Y,x⟩;have T:=ne3 x U.ta.size;have L:=U.lt;replace U:=(U.op S j h).add L Z x;clear L S j h Z x;refine⟨_,rfl,tz 3<|ta 9 [zS] 55 (pg) (U.nw ?_)⟩;intro an A U;refine tsw (U.bk 0 rfl) [.slice f d a] (U.st 0 rfl ?_);intro aq U;refine tz 1<|nt<|ay [(4,pg g),(8,pg l),(9,pg A),(10,iI 0),(34,.slice (some ⟨bf,0,none⟩) 1 c'),(35,iI 1),(36,iI 0),(37,bT),(38,pg bf),(39,.agg #[iU 16,iU 500,iU 10]),(40,.tuple #[.agg #[.slice f d a],iI 0]),(41,pg g),(42,pg l),(43,iU 16),(44,pq l 1),(45,iU 500),(46,pq l 2),(47,iU 10),(48,.tuple #[.agg #[.slice f d a],iI 0]),(49,.agg #[.slice f d a]),(50,iI 0)]<|sr<|tz 2<|nt<|aY<|aU<|dc<|ai<|aN<|tz 2<|aO ?_
   replace U:=U.sel [] [];exact bQ (1:Nat) (by decide) (.inr ⟨rfl,⟨_,_,_,U,by omega,by omega⟩⟩) (by kernel_rfl)
  ·skip;refine sr<|tz 1<|nt<|ag<|aY<|bR<|bC<|bC<|dm<|ai<|sr<|tz 1<|tc 55 69 #[pg g] (Ee U.ta.sx (by omega) (by omega)) ?_
   rintro _ v48 ⟨C,av,n45,N46,rfl,S,D,M,j,h⟩;replace U:=U.op S j h;refine⟨_,rfl,nx<|tz 3<|nr<|ah (.tuple #[pg g,iI 0]) (rs2 2 3) ?_⟩;exact⟨g,_,_,_,B,rfl,U.ta.sx,by omega,by omega,by omega,o.trans (U.ta.cc.below (fun b k=>by have:=u b k;omega) o.size)⟩
theorem C0(m:Blk w0 ba [.int .u64 16,.int .u64 100] 43)(l:Blk w0 bf [.int .u64 17,.int .u64 500,.int .u64 10] 45):cB 38 #[.agg #[.int .u64 1,.int .u64 1,.int .u64 1,.int .u64 0,.int .u64 0,.int .u64 0,.int .u64 0,.int .u64 0,.int .u64 0,.int .u64 16,.slice (some ⟨ba,0,none⟩) 1 c,.slice (some ⟨bf,0,none⟩) 1 c']] w0 (.tuple #[.pointer none,.int .i64 215]):=by
 have h:=Below.refl w0.heap.size w0;refine af (n:=57) Tryz.func38 rfl ?_
 refine sr<|ta 1 [iU 1,iU 1,iU 1,iU 0,iU 0,iU 0,iU 0,iU 0,iU 0,iU 16,.slice (some ⟨ba,0,none⟩) 1 c,.slice (some ⟨bf,0,none⟩) 1 c'] 28 (pg) ?_
 intro v1 u j hg2 B;replace m:=m.keep B;replace l:=l.keep B;replace h:=ae h B;clear B;refine tz 2<|nx ?_
 obtain⟨B,W⟩:∃ B,B=v1.heap.size:=⟨_,rfl⟩
 refine tc 11 64 #[] (Fu B W) ?_
 rintro _ w ⟨g,K,rfl,S,p,o⟩;refine⟨_,rfl,?_⟩
 have r:¬ K ba:=fun k=>by
  have:=p _ k;have:=m.lt;omega
 replace m:=m.keep o
 have v:¬ K bf:=fun k=>by
  have:=p _ k;have:=l.lt;omega
 replace l:=l.keep o
 have f:¬ K u:=fun k=>by
  have:=p _ k;have:=j.lt;omega
 replace j:=j.keep o;have zB:=h.size;replace h:=ae h o;clear o;obtain⟨n,n0⟩:∃ n:Nat,n=0:=⟨_,rfl⟩
 obtain⟨N,N0⟩:∃ N:Nat,N=0:=⟨_,rfl⟩
 replace S:Sx B w K g [] [] n N:=by
  rw[n0,N0];exact S
 have U:=dJ S;refine tz 1<|nx<|tz 2<|tlr 14 [iU 1,iU 1,iU 1,iU 0,iU 0,iU 0,iU 0,iU 0,iU 0,iU 16] (j.chg U.ta.cc f) 0<|tc 15 65 #[pg g,.agg #[iU 1,iU 1,iU 1,iU 0,iU 0,iU 0,iU 0,iU 0,iU 0,iU 16]] (lB U.ta.sx (by omega) (by omega)) ?_
 rintro _ v6 ⟨K3,n4,N5,rfl,S,T,ad,e,d⟩;replace U:=U.op S e d;refine⟨_,rfl,nx<|tz 2<|tc 18 66 #[pg g,.agg #[iU 0,iU 1]] (me U.ta.sx (by omega) (by omega)) ?_⟩;rintro _ v10 ⟨K7,n8,N9,rfl,S,qn8,Z,e,d⟩;replace U:=U.op S e d;refine⟨_,rfl,nt<|ay [(1,pg u),(2,.pointer none),(3,iI 0),(4,pg g)]<|ag<|sr<|tz 1<|tl 20 (.slice (some ⟨ba,0,none⟩) 1 c) (j.chg U.ta.cc f) 10<|tz 2<|nt<|aB<|bH (fun s=>1 - s) (fun(s:Nat)=>[(1,pg u),(4,pg g),(20,.slice (some ⟨ba,0,none⟩) 1 c),(21,iI 1),(22,iI (s:Int))]) (fun s q=>(s=0/\∃ K' n' N',Ut w K B g [] q K' e2 n' N' [] []/\n'<=n+950/\N'<=N+950)\/(s=1/\∃ K' n' N',Ut w K B g [] q K' e3 n' N' [] []/\n'<=n+1010/\N'<=N+1010)) 0 (.inl ⟨rfl,⟨_,_,_,U,by omega,by omega⟩⟩) (by kernel_rfl) ?_⟩;clear U;rintro i v11 (⟨rfl,⟨Y,n13,N14,U,D,E⟩⟩ | ⟨rfl,⟨K15,M,ac,U,F,A⟩⟩)
 ·skip;refine sr<|tz 1<|nt<|ag<|aJ<|aU<|ai<|ag<|aB<|sr<|tz 1<|tlr 25 [iU 16,iU 100] (m.chg U.ta.cc r) 0<|ta 6 [iU 0,iU 0] 43 (pg) (U.nw ?_)
  intro v18 J U;refine tsw (U.bk 0 rfl) [iU 16,iU 100] (U.st 0 rfl ?_);intro v20 U;refine nt<|aN<|tz 2<|tl 28 (iU 16) (U.bk 0 rfl) 0<|tz 1<|tl 30 (iU 100) (U.bk 0 rfl) 1<|tc 31 67 #[pg g,iU 16,iU 100] (mT (rP U.ta.sx ⟨by decide,by decide⟩ ⟨by decide,by decide⟩ (by omega) (by omega)) (show iQ e2 16 100=e3 from rfl) (show gj e2 16 100=0 by decide +kernel)) ?_
  rintro _ v25 ⟨rfl,O,Q,aa,S,G,y,e,d⟩;replace U:=U.op S e d;refine⟨_,rfl,aO<|dc<|ai<|aN<|tz 2<|aO ?_⟩;replace U:=U.sel [] [];exact bQ (1:Nat) (by decide) (.inr ⟨rfl,⟨_,_,_,U,by omega,by omega⟩⟩) (by kernel_rfl)
 ·skip;refine sr<|tz 1<|nt<|ag<|aY<|bR<|bC<|bC<|dm<|ai<|ag<|sr<|tz 1<|tl 34 (.slice (some ⟨bf,0,none⟩) 1 c') (j.chg U.ta.cc f) 11<|tz 2<|nt<|aB<|bH (fun s=>1 - s) (fun(s:Nat)=>[(4,pg g),(34,.slice (some ⟨bf,0,none⟩) 1 c'),(35,iI 1),(36,iI (s:Int))]) (fun s q=>s=0/\∃ K' n' N',Ut w K B g [] q K' e3 n' N' [] []/\n'<=n + 1360/\N'<=N + 1360) 0 ⟨rfl,⟨_,_,_,U,by omega,by omega⟩⟩ (by kernel_rfl) ?_
  clear U;rintro i v26 ⟨rfl,⟨aj,V,R,U,z,x⟩⟩;refine sr<|tz 1<|nt<|ag<|aJ<|aU<|ai<|ag<|aB<|sr<|tz 1<|tlr 39 [iU 17,iU 500,iU 10] (l.chg U.ta.cc v) 0<|ta 8 [iU 0,iU 0,iU 0] 45 (pg) (U.nw ?_)
  intro v30 a U;refine tsw (U.bk 0 rfl) [iU 17,iU 500,iU 10] (U.st 0 rfl ?_);intro I U;refine nx<|tz 2<|tl 43 (iU 17) (U.bk 0 rfl) 0<|tz 1<|tl 45 (iU 500) (U.bk 0 rfl) 1<|tz 1<|tl 47 (iU 10) (U.bk 0 rfl) 2<|tc 48 68 #[pg g,iU 17,iU 500,iU 10] (zy U.ta.sx  (by omega) (by omega)) ?_
  rintro _ v36 ⟨ab,n34,X,rfl,S,C,H,e,d⟩;have L:=U.lt;replace U:=U.op S e d;clear L S e d;refine⟨_,rfl,tz 3<|ta 9 [zS] 55 (pg) (U.nw ?_)⟩;intro v37 t U;refine tsw (U.bk 0 rfl) [zS] (U.st 0 rfl ?_);intro P U;refine tz 1<|nt<|ay [(4,pg g),(8,pg a),(9,pg t),(10,iI 90),(34,.slice (some ⟨bf,0,none⟩) 1 c'),(35,iI 1),(36,iI 0),(37,bT),(38,pg bf),(39,.agg #[iU 17,iU 500,iU 10]),(40,.tuple #[.agg #[zS],iI 90]),(41,pg g),(42,pg a),(43,iU 17),(44,pq a 1),(45,iU 500),(46,pq a 2),(47,iU 10),(48,.tuple #[.agg #[zS],iI 90]),(49,.agg #[zS]),(50,iI 90)]<|sr<|tz 2<|nt<|aJ<|sr<|tz 2<|nr<|hH<|bN<|bN<|hH<|bN<|ah (.tuple #[.pointer none,iI 215]) (rs2 2 3) ?_
  exact⟨rfl,h.trans (U.ta.cc.below (fun b k=>by have:=p b k;omega) h.size)⟩
end
end Fo
end Go.Proofs.YtpoifdokmjhclaaGreat
