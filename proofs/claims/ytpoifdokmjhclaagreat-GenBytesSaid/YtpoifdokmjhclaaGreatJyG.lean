import Derived.Test.YtpoifdokmjhclaaGreatJyF
set_option maxRecDepth 100000
set_option maxHeartbeats 8000000
namespace Go.Proofs.YtpoifdokmjhclaaGreat
section
namespace Fo
open Go.RowKit Go.Lib Pg Lim Gl Kv Bk Pw Sd Di
attribute [local go_sem] Oper.semAt_some
set_option linter.unusedVariables false
set_option linter.unusedSimpArgs false
def e14:aD:=put e12 (Ky.mk 11 16 0) []
def e15:aD:=eB e14 3 2 10
def e16:aD:=put e15 (Ky.mk 5 16 0) (vv 500 10 10000000000000000000000000000000000000 false 0 true 2 0 0 0)
section
variable {B:Nat} {w:World} {K:Nat->Prop} {g:Nat} {E:aD} {W:List aD} {n N:Nat}
section
variable {x:Int}{v:Value}{b0:Nat}{w':World}{a:Option Addr}{sp:List Value}
theorem UA.blk(h:UA w b0 v [x]):∃ b c sp,v=.slice (some ⟨b,0,none⟩) 1 c/\b0<=b/\Blk w b (.int .u64 x :: sp) 22:=by
 rcases h.ex with⟨_,e⟩ | ⟨b,c,e,hb,sp,X,_⟩
 ·cases e
 exact⟨b,c,sp,e,hb,X⟩
theorem UA.emp(h:UA w b0 v []):∃ a c,v=.slice a 0 c:=by
 rcases h.ex with⟨e,_⟩ | ⟨b,c,e,_⟩
 ·exact⟨_,_,e⟩
 exact⟨_,_,e⟩
theorem Sx.one{a N':Nat}{E':aD}(h:Sx B w K g E W n N)(S:SA w' K (B <= ·) g E' W a N')(C:Chg (·=g) w w'):Sx B w' K g E' W a N'/\Chg K w w':=⟨⟨S,Nat.le_trans h.lo C.size,h.kb⟩,C.mono (λb _ e=>by have c:b=g:=e;rw[c];exact h.sa.top)⟩
theorem F0(h:Sx B w K g E W n N)(f:∀ x∈E,[98] <+: x.1->Ky.frm (11:Nat)=Ky.fIn x.1)(b:pks 11 98 E=[])(hn:n<=1000000000000000000)(d:N<=100000000):CP 99 #[pg g] w λe w'=>∃ a c,e=.returned (.slice a 0 c)/\Sx B w' K g E W (n + 1) N/\Chg K w w':=by
 refine(oI h.sa f d (by omega)).mono ?_
 rintro e w' ⟨v,j,rfl,U,rfl,S,C⟩;rw[b] at U S;obtain⟨a,c,rfl⟩:=UA.emp U;exact⟨a,c,rfl,Sx.one h S C⟩
theorem xtop(h:Sx B w K g E W n N)(i:∀ x∈E,[105] <+: x.1->Ky.frm (10:Nat)=Ky.fIn x.1)(d:(pks 10 105 E).map Prod.snd=[x])(hn:n<=1000000000000000000)(k:N<=100000000):CP 100 #[pg g,.int .i64 1] w λe w'=>∃ b c sp,e=.returned (.slice (some ⟨b,0,none⟩) 1 c)/\w.heap.size<=b/\Blk w' b (.int .u64 x :: sp) 22/\Sx B w' K g E W (n + 1 + 1) N/\Chg K w w':=by
 have a:(pks 10 105 E).length=1:=by rw[<- List.length_map (f:=Prod.snd),d];rfl
 refine(uD (m:=1) h.sa (by decide) (by decide) i k (by omega)).mono ?_
 rintro e w' ⟨v,j,rfl,U,rfl,S,C⟩;rw[d] at U;rw[a] at S;obtain⟨b,c,sp,rfl,hb,X⟩:=UA.blk U;exact⟨b,c,sp,rfl,hb,X,Sx.one h S C⟩
theorem xturns{c d f:Nat}(j:Blk w f (.int .u64 16 :: sp) 22):CP 98 #[.slice a 0 c,.slice (some ⟨f,0,none⟩) 1 d] w λe w'=>∃ a' c' b d' sp',e=.returned (.tuple #[.slice a' 0 c',.slice (some ⟨b,0,none⟩) 1 d'])/\w.heap.size<=b/\Blk w' b (.int .u64 16 :: sp') 22/\BW w w':=by
 refine(Pt.E9 j).mono ?_
 rintro e w' ⟨va,k,rfl,h,i,g⟩;obtain⟨a',c',rfl⟩:=UA.emp h;obtain⟨b,d',sp',rfl,hb,X⟩:=UA.blk i;exact⟨a',c',b,d',sp',rfl,hb,X,g⟩
end
end
section
variable {B g n N:Nat}{w:World}{K:Nat->Prop}{W:List aD}
theorem zK(h:Sx B w K g e12 W n N)(hn:n<=10000000)(q:N<=10000000):CP 97 #[pg g] w (λe w'=>∃ K' n' N',e=.returned (.agg #[iU 1,iU 1,iU 1,iU 0,iU 0,iU 0,iU 0,iU 0,iU 0,iU 16])/\Sx B w' K' g e12 W n' N'/\n'<=n+10/\N'<=N+10/\(∀ b,K' b->K b\/w.heap.size<=b)/\Chg K w w'):=by
 have U:=dR h;refine af (n:=19) Tryz.func97 rfl ?_
 refine sr<|ta 2 cl1 24 (pg) (U.nw ?_)
 intro v1 k U;refine nx<|tz 1<|tc 9 87 #[.int .i64 1,.int .u64 0,.int .u64 0] (yz ⟨by decide,by decide⟩ (by kernel_rfl)) ?_
 rintro _ r ⟨c,rfl,m,B⟩;have U:=U.keep B;refine⟨_,rfl,tc 10 39 #[pg g,c] (Cf U.ta.sx m) ?_⟩;rintro _ p ⟨d,rfl,l,S,i⟩;have U:=U.op S (λ_ h=>.inl h) i;refine⟨_,rfl,tz 5<|nx<|tz 1<|tc 15 145 #[d] (Cv (p0:=1) (p1:=1) (p2:=1) (p3:=0) (p4:=0) (p5:=0) (p6:=0) (p7:=0) (p8:=0) (p9:=16) (er:=0) l (lG U.ta.sx _) (by decide +kernel)) ?_⟩;rintro _ o ⟨rfl,B⟩;have U:=U.keep B;refine⟨_,rfl,tz 3<|ta 5 cl1 24 (pg) (U.nw ?_)⟩;intro v10 a U;refine tsw (U.bk 0 rfl) cl6 (U.st 0 rfl ?_);intro j U;refine tz 1<|nt<|aA [(2,pg k),(5,pg a)]<|sr<|tlr 18 cl6 (U.bk 0 rfl) 0<|tsw (U.bk 1 rfl) cl6 (U.st 1 rfl ?_)
 intro f U;refine nr<|ah (.agg #[.int .u64 1,.int .u64 1,.int .u64 1,.int .u64 0,.int .u64 0,.int .u64 0,.int .u64 0,.int .u64 0,.int .u64 0,.int .u64 16]) (rsc (T:=24) 2 (lr (U.bk 1 rfl) 0)) ?_
 exact⟨_,_,_,rfl,U.ta.sx,by omega,by omega,U.ta.km,U.ta.cc⟩
theorem turn_l(h:Sx B w K g e12 W n N)(hn:n<=1000000)(hN:N<=1000000):CP 101 #[pg g,iU 16,bT] w (λe w'=>∃ K' n' N',e=.returned (.tuple #[])/\Sx B w' K' g e16 W n' N'/\n'<=n+3000/\N'<=N+3000/\(∀ b,K' b->K b\/w.heap.size<=b)/\Chg K w w'):=by
 have U:=dR h;refine af (n:=43) Tryz.func101 rfl ?_
 refine sr<|tz 3<|tc 13 148 #[pg g,iU 16,bT] (SxE.iW (Ea U.ta.sx ⟨by decide,by decide⟩ (by omega) (by omega)) (show _=e14 from rfl)) ?_
 rintro _ v2 ⟨rfl,K1,S,s,r⟩;have U:=U.op S s r;refine⟨_,rfl,nx<|tz 2<|tc 17 16 #[pg g,iU 16] (Gd (th:=true) (er:=0) (rt:=500) (tk:=10) (un:=0) (pe:=2) (jl:=false) (bo:=false) (x0:=10000000000000000000000000000000000000) (x1:=0) (x2:=0) (x3:=0) U.ta.sx ⟨by decide,by decide⟩ (by decide +kernel) rfl) ?_⟩;rintro _ v10 ⟨q,i,a,R,o,p,m,P,c,k,l,ac,j,d,f,Z,K7,n8,N9,rfl,S,am,aa,s,r,Q0,V,C,Q1,F,D,Q2,Y,A,G,ah,x⟩;have I:=ne3 C U.ta.size;have ak:=ne3 D U.ta.size;have al:=ne3 A U.ta.size;have Q:=ne3 x U.ta.size;have L:=U.lt;have U:=((((U.op S s r).add L Q0 C).add L Q1 D).add L Q2 A).add L G x;refine⟨_,rfl,tz 3<|ta 6 cl4 57 (pg) (U.nw ?_)⟩;intro v11 t U;refine tsw (U.bk 0 rfl) [iU 500,iU 10,.slice q i a,bF,iU 0,bF,iU 2,.slice o p m,.slice c k l,.slice j d f] (U.st 0 rfl ?_);intro E U;refine tz 1<|nt<|aA [(0,pg g),(1,iU 16),(2,bT),(6,pg t),(7,bT)]<|ag<|sr<|tz 2<|nt<|nk<|sr<|tz 1<|tlr 23 [iU 500,iU 10,.slice q i a,bF,iU 0,bF,iU 2,.slice o p m,.slice c k l,.slice j d f] (U.bk 0 rfl) 0<|tz 1<|ta 8 cl2 183 (pg) (U.nw ?_)
 intro ad u U;refine tsw (U.bk 0 rfl) [iU 16,iU 0,iU 500,iU 10,.slice q i a,bF,iU 0,bF,iU 2,.slice o p m,.slice c k l,.slice j d f,zS,iU 0,zS,bF] (U.st 0 rfl ?_);intro M U;refine nx<|tlr 25 [iU 16,iU 0,iU 500,iU 10,.slice q i a,bF,iU 0,bF,iU 2,.slice o p m,.slice c k l,.slice j d f,zS,iU 0,zS,bF] (U.bk 0 rfl) 0<|tz 2<|nx<|tz 3<|ts (U.bk 0 rfl) 7 (bT) [bT] [iU 16,iU 0,iU 500,iU 10,.slice q i a,bF,iU 0,bT,iU 2,.slice o p m,.slice c k l,.slice j d f,zS,iU 0,zS,bF] (U.st 0 rfl ?_)
 intro X U;refine nt<|aA [(0,pg g),(1,iU 16),(6,pg t),(8,pg u),(9,.func (.func 143) #[.agg #[iU 16,iU 0,iU 500,iU 10,.slice q i a,bF,iU 0,bF,iU 2,.slice o p m,.slice c k l,.slice j d f,zS,iU 0,zS,bF]] #[])]<|ag ?_
 have U:=U.drew;refine gd2 (U.bk 0 rfl) (U.bk 1 rfl) ?_
 refine z 0 30 (pg g)<|z 1 31 (.func (.func 143) #[.agg #[iU 16,iU 0,iU 500,iU 10,.slice q i a,bF,iU 0,bF,iU 2,.slice o p m,.slice c k l,.slice j d f,zS,iU 0,zS,bF]] #[])<|zlr 3 33 [iU 16,iU 0,iU 500,iU 10,.slice q i a,bF,iU 0,bT,iU 2,.slice o p m,.slice c k l,.slice j d f,zS,iU 0,zS,bF] (λ_ h=>h.1) 0<|z 5 35 (pq t 1)<|zl 6 36 (iU 10) (λ_ h=>h.2) 1<|zc 2 32 143 #[.agg #[iU 16,iU 0,iU 500,iU 10,.slice q i a,bF,iU 0,bF,iU 2,.slice o p m,.slice c k l,.slice j d f,zS,iU 0,zS,bF]] (qw) ?_
 rintro _ v18 ⟨rfl,B⟩;have U:=U.keep B;refine⟨_,rfl,⟨(U.bk 0 rfl),(U.bk 1 rfl)⟩,zc 4 34 143 #[.agg #[iU 16,iU 0,iU 500,iU 10,.slice q i a,bF,iU 0,bT,iU 2,.slice o p m,.slice c k l,.slice j d f,zS,iU 0,zS,bF]] (DF) ?_⟩;rintro _ T ⟨rfl,B⟩;have U:=U.keep B;refine⟨_,rfl,⟨(U.bk 0 rfl),(U.bk 1 rfl)⟩,zc 7 37 142 #[pg g,iU 3,iU 2,iU 10] (nN (nO U.ta.sx ⟨by decide,by decide⟩ ⟨by decide,by decide⟩ ⟨by decide,by decide⟩) (show eB e14 3 2 10=e15 from rfl) (show dG e14 3 2 10=0 by decide +kernel)) ?_⟩;rintro _ H ⟨rfl,ae,O,J,S,v,y,s,r⟩;have U:=U.op S s r;refine⟨_,rfl,⟨(U.bk 0 rfl),(U.bk 1 rfl)⟩,aS<|aj<|aN<|tz 3<|tlr 41 [iU 500,iU 10,.slice q i a,bF,iU 0,bT,iU 2,.slice o p m,.slice c k l,.slice j d f] (U.bk 0 rfl) 2<|tc 42 149 #[pg g,iU 16,.agg #[iU 500,iU 10,.slice q i a,bF,iU 0,bT,iU 2,.slice o p m,.slice c k l,.slice j d f]] (SxE.iW (sVal U.ta.sx ⟨by decide,by decide⟩ (U.nq 3 rfl).nk (U.nq 2 rfl).nk (U.nq 1 rfl).nk (U.nq 0 rfl).nk) (show _=e16 from rfl)) ?_⟩;rintro _ ai ⟨rfl,ab,S,s,r⟩;have U:=U.op S s r;refine⟨_,rfl,aO<|bh (.tuple #[]) (rs0) ?_⟩;exact⟨_,_,_,rfl,U.ta.sx,by omega,by omega,U.ta.km,U.ta.cc⟩
theorem Fk(h:Sx B w K g e12 W n N)(hn:n<=500000)(hN:N<=500000):CP 69 #[pg g] w (λe w'=>∃ v K' n' N',e=.returned v/\Sx B w' K' g e16 W n' N'/\n'<=n+10000/\N'<=N+10000/\(∀ b,K' b->K b\/w.heap.size<=b)/\Chg K w w'):=by
 have U:=dR h;refine af (n:=47) Tryz.func69 rfl ?_
 refine sr<|tz 2<|nx<|tz 1<|tc 12 97 #[pg g] (zK U.ta.sx (by omega) (by omega)) ?_
 rintro _ v4 ⟨K1,n2,N3,rfl,S,H,Y,r,o⟩;have U:=U.op S r o;refine⟨_,rfl,tz 3<|nx<|tz 1<|tc 17 99 #[pg g] (F0 U.ta.sx (by decide +kernel) (by decide +kernel) (by omega) (by omega)) ?_⟩;rintro _ v6 ⟨q,t,rfl,S,o⟩;have U:=U.op S (λ_ h=>.inl h) o;refine⟨_,rfl,tz 3<|tc 21 100 #[pg g,iI 1] (xtop (x:=16) U.ta.sx (by decide +kernel) (by decide +kernel) (by omega) (by omega)) ?_⟩;rintro _ v8 ⟨m,p,c,rfl,hb,X,S,o⟩;have U:=U.opnew S (λ_ h=>.inl h) o X hb (λk=>absurd (U.ta.lt k) (Nat.not_lt.2 hb));refine⟨_,rfl,tc 22 98 #[.slice q 0 t,.slice (some ⟨m,0,none⟩) 1 p] (xturns (U.bk 0 rfl)) ?_⟩;rintro _ v10 ⟨f,d,a,l,j,rfl,hb,X,b⟩;have U:=U.new X hb b;refine⟨_,rfl,tz 5<|nt<|aA [(0,pg g),(2,zS),(3,zS),(5,.slice f 0 d),(6,.slice (some ⟨a,0,none⟩) 1 l)]<|ag<|sr<|tz 3<|nt<|aB<|bI (λ_=>0) (fun(_:Unit)=>[(0,pg g),(5,.slice f 0 d),(6,.slice (some ⟨a,0,none⟩) 1 l),(25,.slice f 0 d),(26,iI 0),(27,iI 0)]) (λ_ w'=>∃ K' n' N',Ut w K B g W w' K' e12 n' N' [(a,iU 16 :: j,22),(m,iU 16 :: c,22)] []/\n'<=n+363/\N'<=N+363) () ⟨_,_,_,U,by omega,by omega⟩ (by kernel_rfl) ?_⟩;rintro _ v11 ⟨J,aa,Z,U,A,D⟩;refine sr<|tz 1<|nt<|ag<|aX<|bQ<|bC<|bC<|dg<|aj<|ag<|sr<|tz 3<|nt<|aB<|bI (λs=>1 - s) (fun(s:Nat)=>[(0,pg g),(5,.slice f 0 d),(6,.slice (some ⟨a,0,none⟩) 1 l),(35,.slice (some ⟨a,0,none⟩) 1 l),(36,iI 1),(37,iI (s:Int))]) (λs w'=>(s=0/\∃ K' n' N',Ut w K B g W w' K' e12 n' N' [(a,iU 16 :: j,22),(m,iU 16 :: c,22)] []/\n'<=n+713/\N'<=N+713)\/(s=1/\∃ K' n' N',Ut w K B g W w' K' e16 n' N' [(a,iU 16 :: j,22),(m,iU 16 :: c,22)] []/\n'<=n+4063/\N'<=N+4063)) 0 (.inl ⟨rfl,⟨_,_,_,U,by omega,by omega⟩⟩) (by kernel_rfl) ?_
 rintro i I (⟨rfl,⟨M,G,V,U,z,y⟩⟩ | ⟨rfl,⟨T,R,ab,U,E,F⟩⟩)
 ·skip;refine sr<|tz 1<|nt<|ag<|aL<|aT<|aj<|ag<|aB<|sr<|tz 1<|tl 40 (iU 16) (U.bk 0 rfl) 0<|tz 1<|nt<|aN<|tz 2<|tc 43 101 #[pg g,iU 16,bT] (turn_l U.ta.sx (by omega) (by omega)) ?_
  rintro _ Q ⟨P,O,L,rfl,S,C,u,r,o⟩;have U:=U.op S r o;exact⟨_,rfl,aO<|cX<|aj<|aN<|tz 2<|aO<|bH (1:Nat) (.inr ⟨rfl,⟨_,_,_,U,by omega,by omega⟩⟩) (by kernel_rfl)⟩
 skip;refine sr<|tz 1<|nt<|ag<|aX<|bQ<|bC<|bC<|dg<|aj<|sr<|tz 4<|nr<|ah (.tuple #[.slice f 0 d,.slice (some ⟨a,0,none⟩) 1 l]) (rs2 2 3) ?_
 exact⟨_,_,_,_,rfl,U.ta.sx,by omega,by omega,U.ta.km,U.ta.cc⟩
end
end Fo
end
section
namespace Bk
open Go.RowKit Go.Lib Pg Lim Kv
attribute [local go_sem] Oper.semAt_some
section
variable {Wb V V':World} {B t g x i N:Nat} {K D:Nat->Prop} {E:aD} {Wn:List aD}
end
end Bk
end
section
namespace Sd
open Go.RowKit Go.Lib Pg Lim Gl Kv Bk Pw
attribute [local go_sem] Oper.semAt_some
set_option linter.unusedSimpArgs false
set_option linter.unusedVariables false
section
variable {B:Nat} {w:World} {K:Nat->Prop} {g:Nat} {E:aD} {W:List aD} {n N:Nat} {kv:Value} {k l:List Int}
end
end Sd
end
section
namespace Sd
open Go.RowKit Go.Lib Pg Lim Gl Kv Bk Pw
attribute [local go_sem] Oper.semAt_some
set_option linter.unusedSimpArgs false
set_option linter.unusedVariables false
section
variable {w w':World} {g:Nat} {o:Obj}
end
end Sd
end
section
namespace Sd
open Go.RowKit Go.Lib Pg Lim Gl Kv Bk Pw
attribute [local go_sem] Oper.semAt_some
set_option linter.unusedSimpArgs false
set_option linter.unusedVariables false
theorem AA {w:World} {x:Int} {r:Bool} (hr:decide (16<=x)=r):cB 83 #[iU x] w (.bool r):=by
 have a:=Below.refl w.heap.size w;refine af (n:=5) Tryz.func83 rfl ?_
 refine sr<|tz 1<|nx<|tz 1 ?_
 by_cases c1:(16:Int)<=x
 ·refine tq 4 (.bool (decide ((16:Int)<=x))) (.bool true) (congrArg Value.bool (decide_eq_true c1))<|tz 1<|nr<|ah (.bool true) (rs1 2) ?_
  exact⟨by rw[<- hr];simp;omega,a⟩
 refine tq 4 (.bool (decide ((16:Int)<=x))) (.bool false) (congrArg Value.bool (decide_eq_false c1))<|tz 1<|nr<|ah (.bool false) (rs1 2) ?_
 exact⟨by rw[<- hr];simp;omega,a⟩
end Sd
end
end Go.Proofs.YtpoifdokmjhclaaGreat
