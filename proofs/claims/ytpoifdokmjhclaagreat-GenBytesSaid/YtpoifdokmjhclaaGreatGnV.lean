/- A genesis as an argument. -/
import Derived.Test.YtpoifdokmjhclaaGreatJyo
import Derived.Deep.Slices
set_option maxRecDepth 100000
set_option maxHeartbeats 8000000
namespace Go.Proofs.YtpoifdokmjhclaaGreat
namespace Ga
open Gn (ir)
open Go.RowKit Lim Go.ChangeShapes Go.WideShapes
section
variable {v:Value}{w W:World}{base fuel len cap:Nat}{spare:Nat->Bool}{held:Bool}{A:Addr}{cs:List Value}{a:Option Addr}
theorem jh{v:Int}(b:(Lit.int .u64 v).wf=true):Mg.In8 v:=by
 have:=bounds_u64 b;unfold Mg.In8;omega
theorem GG{α:Type}{l:List α}(h:l.length=2):∃ a b,l=[a,b]:=by
 match l,h with
 | [a,b],_=>exact⟨a,b,rfl⟩
theorem A7{α:Type}{l:List α}(h:l.length=3):∃ a b c,l=[a,b,c]:=by
 match l,h with
 | [a,b,c],_=>exact⟨a,b,c,rfl⟩
theorem list12{α:Type}{l:List α}(h:l.length=12):∃ a b c d e f g i j k m n,l=[a,b,c,d,e,f,g,i,j,k,m,n]:=by
 match l,h with
 | [a,b,c,d,e,f,g,i,j,k,m,n],_=>exact⟨a,b,c,d,e,f,g,i,j,k,m,n,rfl⟩
theorem bZ(b o j:Nat):(⟨b,o,none⟩:Addr).add j=⟨b,o+j,none⟩:=by
 by_cases e:j=0
 ·subst e;rfl
 simp[Addr.add,e]
theorem zC{x:Addr}(hx:w.cell? x=some v):x.spot=none:=by
 simp only[World.cell?] at hx
 cases hh:w.heap[x.block]? with
 | none=>rw[hh] at hx;simp at hx
 | some ob =>
  rw[hh] at hx
  cases ob with
  | cells c e f =>
   simp at hx
   cases hs:x.spot with
   | none=>rfl
   | some s=>rw[hs] at hx;simp at hx
  | _=>simp at hx
theorem pur_in{H:Type}{enc:TypeId × Value->H}{x:DataW H × List MemPlace}(hc:W.cells? base A 2=some cs)(h:DataW.trod enc Tryz.prog W base spare held fuel 43 cs=some x):∃ f:Nat->Int,A.spot=none/\∀ q,q < 2->W.cell? ⟨A.block,A.off+q,none⟩=some (.int .u64 (f q))/\Mg.In8 (f q):=by
 obtain⟨_,hlen,a⟩:=World.cells?_some hc;obtain⟨xs,k,hk,rfl,_,c,hf⟩:=DataW.trod_struct Tryz.underlying43 h;obtain⟨n,m,rfl⟩:=GG (show xs.length=2 from c);obtain⟨v0,v1,rfl⟩:=GG hlen;have g0:=hf 0 _ rfl;have g1:=hf 1 _ rfl
 have e:Tryz.prog.cellsOf 22=1:=by kernel_rfl
 simp[e] at g0 g1;obtain⟨n0,g,_,j⟩:=DataW.trod_int Tryz.underlying22 g0;obtain⟨l,e1,_,i⟩:=DataW.trod_int Tryz.underlying22 g1;have c0:=a 0 (by decide);have c1:=a 1 (by decide)
 have d:A.spot=none:=by
  rw[show A.add 0=A from rfl] at c0;exact zC c0
 obtain⟨b,o,sp⟩:=A;obtain rfl:sp=none:=d;rw[bZ] at c0 c1;simp at g e1;subst g e1;refine⟨λq=>nth [n0,l] q,rfl,λq hq=>?_⟩;rcases(show q=0\/q=1 by omega) with rfl | rfl
 ·exact⟨c0,jh j⟩
 exact⟨c1,jh i⟩
theorem fou_in{H:Type}{enc:TypeId × Value->H}{x:DataW H × List MemPlace}(hc:W.cells? base A 3=some cs)(h:DataW.trod enc Tryz.prog W base spare held fuel 45 cs=some x):∃ f:Nat->Int,A.spot=none/\∀ q,q < 3->W.cell? ⟨A.block,A.off+q,none⟩=some (.int .u64 (f q))/\Mg.In8 (f q):=by
 obtain⟨_,hlen,a⟩:=World.cells?_some hc;obtain⟨xs,k,hk,rfl,_,e,hf⟩:=DataW.trod_struct Tryz.underlying45 h;obtain⟨r,s,t,rfl⟩:=A7 (show xs.length=3 from e);obtain⟨v0,v1,v2,rfl⟩:=A7 hlen;have g0:=hf 0 _ rfl;have g1:=hf 1 _ rfl;have i:=hf 2 _ rfl
 have d:Tryz.prog.cellsOf 22=1:=by kernel_rfl
 simp[d] at g0 g1 i;obtain⟨n0,g,_,l⟩:=DataW.trod_int Tryz.underlying22 g0;obtain⟨m,e1,_,j⟩:=DataW.trod_int Tryz.underlying22 g1;obtain⟨p,e2,_,n⟩:=DataW.trod_int Tryz.underlying22 i;have c0:=a 0 (by decide);have c1:=a 1 (by decide);have c2:=a 2 (by decide)
 have c:A.spot=none:=by
  rw[show A.add 0=A from rfl] at c0;exact zC c0
 obtain⟨b,o,sp⟩:=A;obtain rfl:sp=none:=c;rw[bZ] at c0 c1 c2;simp at g e1 e2;subst g e1 e2;refine⟨λq=>nth [n0,m,p] q,rfl,λq hq=>?_⟩;rcases(show q=0\/q=1\/q=2 by omega) with rfl | rfl | rfl
 ·exact⟨c0,jh l⟩
 ·exact⟨c1,jh j⟩
 exact⟨c2,jh n⟩
theorem Ef{H:Type}{enc:TypeId × Value->H}{x:DataW H × List MemPlace}(hs:∀ b,spare b=true)(h:DataW.trod enc Tryz.prog W base spare held fuel 25 [.slice a len cap]=some x):∃ b o A,Gn.Nl W a len 2 b o A/\len<=9223372036854775807:=by
 have u:Tryz.prog.cellsOf 43=2:=by kernel_rfl
 rcases Go.Deep.open_slice Tryz.underlying25 h with⟨hcs,_⟩ | ⟨A,l,c,m,n,D,Pl,hcs,_,hl,hm,hmm,rfl,hx⟩
 ·simp at hcs;obtain⟨rfl,rfl,rfl⟩:=hcs;exact⟨0,0,[],⟨rfl,λh=>absurd h (by decide),λi h=>absurd h (by omega),λ_ h=>absurd h List.not_mem_nil⟩,by decide⟩
 simp at hcs;obtain⟨rfl,rfl,rfl⟩:=hcs
 have w:m=cap:=by rw[hmm,hs];rfl
 have d:∀ i,i < len->∃ f:Nat->Int,(A.add (i * 2)).spot=none/\∀ q,q < 2->W.cell? ⟨(A.add (i * 2)).block,(A.add (i * 2)).off + q,none⟩=some (.int .u64 (f q))/\Mg.In8 (f q):=λi hi=>by
  obtain⟨z,r,t⟩:=hx i (by omega);rw[u] at r;exact pur_in r t
 have g:0 < len->A.spot=none:=λp=>by
  obtain⟨s,k1,_⟩:=d 0 p;rw[Nat.zero_mul] at k1;exact k1
 have each:∀ j,j < len * 2->∃ v,A=⟨A.block,A.off,none⟩/\W.cell? ⟨A.block,A.off + j,none⟩=some (.int .u64 v)/\Mg.In8 v:=λj k=>by
  obtain⟨f,k1,k2⟩:=d (j / 2) (by omega);have e:=g (by omega);obtain⟨b,o,sp⟩:=A;obtain rfl:sp=none:=e;obtain⟨k3,B⟩:=k2 (j % 2) (by omega);rw[bZ] at k3;simp only at k3;rw[show o+j / 2 * 2+j % 2=o+j by omega] at k3;exact⟨_,rfl,k3,B⟩
 obtain⟨f,hf⟩:=Go.Deep.choose_lt each;refine⟨A.block,A.off,(List.range (len * 2)).map f,⟨by simp,λp=>congrArg some (hf 0 (by omega)).1,λi hi=>?_,λy hy=>?_⟩,by unfold maxLen at hm;omega⟩
 ·rw[show nth ((List.range (len * 2)).map f) i=f i by simp[nth,List.getD_eq_getElem?_getD,List.getElem?_range hi]];exact(hf i hi).2.1
 obtain⟨j,k,rfl⟩:=List.mem_map.1 hy;exact(hf j (List.mem_range.1 k)).2.2
theorem FM{H:Type}{enc:TypeId × Value->H}{x:DataW H × List MemPlace}(hs:∀ b,spare b=true)(h:DataW.trod enc Tryz.prog W base spare held fuel 26 [.slice a len cap]=some x):∃ b o A,Gn.Nl W a len 3 b o A/\len<=9223372036854775807:=by
 have u:Tryz.prog.cellsOf 45=3:=by kernel_rfl
 rcases Go.Deep.open_slice Tryz.underlying26 h with⟨hcs,_⟩ | ⟨A,l,c,m,n,D,Pl,hcs,_,hl,hm,hmm,rfl,hx⟩
 ·simp at hcs;obtain⟨rfl,rfl,rfl⟩:=hcs;exact⟨0,0,[],⟨rfl,λh=>absurd h (by decide),λi h=>absurd h (by omega),λ_ h=>absurd h List.not_mem_nil⟩,by decide⟩
 simp at hcs;obtain⟨rfl,rfl,rfl⟩:=hcs
 have w:m=cap:=by rw[hmm,hs];rfl
 have d:∀ i,i < len->∃ f:Nat->Int,(A.add (i * 3)).spot=none/\∀ q,q < 3->W.cell? ⟨(A.add (i * 3)).block,(A.add (i * 3)).off + q,none⟩=some (.int .u64 (f q))/\Mg.In8 (f q):=λi hi=>by
  obtain⟨z,r,t⟩:=hx i (by omega);rw[u] at r;exact fou_in r t
 have g:0 < len->A.spot=none:=λp=>by
  obtain⟨s,k1,_⟩:=d 0 p;rw[Nat.zero_mul] at k1;exact k1
 have each:∀ j,j < len * 3->∃ v,A=⟨A.block,A.off,none⟩/\W.cell? ⟨A.block,A.off + j,none⟩=some (.int .u64 v)/\Mg.In8 v:=λj k=>by
  obtain⟨f,k1,k2⟩:=d (j / 3) (by omega);have e:=g (by omega);obtain⟨b,o,sp⟩:=A;obtain rfl:sp=none:=e;obtain⟨k3,B⟩:=k2 (j % 3) (by omega);rw[bZ] at k3;simp only at k3;rw[show o+j / 3 * 3+j % 3=o+j by omega] at k3;exact⟨_,rfl,k3,B⟩
 obtain⟨f,hf⟩:=Go.Deep.choose_lt each;refine⟨A.block,A.off,(List.range (len * 3)).map f,⟨by simp,λp=>congrArg some (hf 0 (by omega)).1,λi hi=>?_,λy hy=>?_⟩,by unfold maxLen at hm;omega⟩
 ·rw[show nth ((List.range (len * 3)).map f) i=f i by simp[nth,List.getD_eq_getElem?_getD,List.getElem?_range hi]];exact(hf i hi).2.1
 obtain⟨j,k,rfl⟩:=List.mem_map.1 hy;exact(hf j (List.mem_range.1 k)).2.2
theorem par_in{H:Type}{enc:TypeId × Value->H}{x:DataW H × List MemPlace}(hlen:cs.length=10)(h:DataW.trod enc Tryz.prog W base spare held fuel 24 cs=some x):∃ p0 p1 p2 p3 p4 p5 p6 p7 p8 p9,cs=[.int .u64 p0,.int .u64 p1,.int .u64 p2,.int .u64 p3,.int .u64 p4,.int .u64 p5,.int .u64 p6,.int .u64 p7,.int .u64 p8,.int .u64 p9]/\∀ y∈([p0,p1,p2,p3,p4,p5,p6,p7,p8,p9]:List Int),Mg.In8 y:=by
 obtain⟨xs,k,hk,rfl,_,b,hf⟩:=DataW.trod_struct Tryz.underlying24 h;obtain⟨O,S,X,K,V,T,U,I,L,N,rfl⟩:=ir (show xs.length=10 from b);obtain⟨v0,v1,v2,Q,v4,R,v6,M,P,J,rfl⟩:=ir hlen;have g0:=hf 0 _ rfl;have g1:=hf 1 _ rfl;have i:=hf 2 _ rfl;have m:=hf 3 _ rfl;have f:=hf 4 _ rfl;have l:=hf 5 _ rfl;have g:=hf 6 _ rfl;have e:=hf 7 _ rfl;have j:=hf 8 _ rfl;have d:=hf 9 _ rfl
 have a:Tryz.prog.cellsOf 22=1:=by kernel_rfl
 simp[a] at g0 g1 i m f l g e j d;obtain⟨n0,c,_,C⟩:=DataW.trod_int Tryz.underlying22 g0;obtain⟨D,e1,_,t⟩:=DataW.trod_int Tryz.underlying22 g1;obtain⟨G,e2,_,F⟩:=DataW.trod_int Tryz.underlying22 i;obtain⟨o,e3,_,v⟩:=DataW.trod_int Tryz.underlying22 m;obtain⟨z,e4,_,n⟩:=DataW.trod_int Tryz.underlying22 f;obtain⟨u,e5,_,A⟩:=DataW.trod_int Tryz.underlying22 l;obtain⟨B,e6,_,w⟩:=DataW.trod_int Tryz.underlying22 g;obtain⟨r,e7,_,p⟩:=DataW.trod_int Tryz.underlying22 e;obtain⟨s,e8,_,w8⟩:=DataW.trod_int Tryz.underlying22 j;obtain⟨q,e9,_,E⟩:=DataW.trod_int Tryz.underlying22 d;simp at c e1 e2 e3 e4 e5 e6 e7 e8 e9;subst c e1 e2 e3 e4 e5 e6 e7 e8 e9;refine⟨n0,D,G,o,z,u,B,r,s,q,rfl,?_⟩;simp only[List.forall_mem_cons];exact⟨jh C,jh t,jh F,jh v,jh n,jh A,jh w,jh p,jh w8,jh E,λ_ h=>absurd h List.not_mem_nil⟩
theorem gen_in{H:Type}{enc:TypeId × Value->H}{x:DataW H × List MemPlace}(hs:∀ b,spare b=true)(hlen:cs.length=12)(i:∀ v y m,DataW.trod enc Tryz.prog W base spare held m 25 [v]=some y->∃ a n c,v=.slice a n c)(d:∀ v y m,DataW.trod enc Tryz.prog W base spare held m 26 [v]=some y->∃ a n c,v=.slice a n c)(h:DataW.trod enc Tryz.prog W base spare held fuel 28 cs=some x):∃ p0 p1 p2 p3 p4 p5 p6 p7 p8 p9 a1 na c1 a2 nv c2 b1 o1 b2 o2 A V,cs=[.int .u64 p0,.int .u64 p1,.int .u64 p2,.int .u64 p3,.int .u64 p4,.int .u64 p5,.int .u64 p6,.int .u64 p7,.int .u64 p8,.int .u64 p9,.slice a1 na c1,.slice a2 nv c2]/\(∀ y∈([p0,p1,p2,p3,p4,p5,p6,p7,p8,p9]:List Int),Mg.In8 y)/\Gn.Nl W a1 na 2 b1 o1 A/\Gn.Nl W a2 nv 3 b2 o2 V/\na<=9223372036854775807/\nv<=9223372036854775807:=by
 obtain⟨xs,k,hk,rfl,_,g,hf⟩:=DataW.trod_struct Tryz.underlying28 h;obtain⟨u,B,D,rfl⟩:=A7 (show xs.length=3 from g);obtain⟨v0,v1,v2,z,v4,C,v6,t,w,s,v10,v11,rfl⟩:=list12 hlen;have g0:=hf 0 _ rfl;have g1:=hf 1 _ rfl;have j:=hf 2 _ rfl
 have f:Tryz.prog.cellsOf 24=10:=by kernel_rfl
 have o:Tryz.prog.cellsOf 25=1:=by kernel_rfl
 have l:Tryz.prog.cellsOf 26=1:=by kernel_rfl
 simp[f,o,l] at g0 g1 j;obtain⟨p0,p1,p2,p3,p4,p5,p6,p7,p8,p9,e,r⟩:=par_in rfl g0
 cases e;obtain⟨a1,na,c1,rfl⟩:=i _ _ _ g1;obtain⟨a2,nv,c2,rfl⟩:=d _ _ _ j;obtain⟨b1,o1,A,q,k1⟩:=Ef hs g1;obtain⟨b2,o2,V,p,k2⟩:=FM hs j;exact⟨p0,p1,p2,p3,p4,p5,p6,p7,p8,p9,a1,na,c1,a2,nv,c2,b1,o1,b2,o2,A,V,rfl,r,q,p,k1,k2⟩
theorem slP_in{H:Type}{enc:TypeId × Value->H}{x:DataW H × List MemPlace}(h:DataW.trod enc Tryz.prog W base spare held fuel 25 [v]=some x):∃ a n c,v=.slice a n c:=by
 rcases Go.Deep.open_slice Tryz.underlying25 h with⟨hcs,_⟩ | ⟨A,l,c,m,n,D,Pl,hcs,_⟩
 ·cases hcs;exact⟨_,_,_,rfl⟩
 cases hcs;exact⟨_,_,_,rfl⟩
theorem slF_in{H:Type}{enc:TypeId × Value->H}{x:DataW H × List MemPlace}(h:DataW.trod enc Tryz.prog W base spare held fuel 26 [v]=some x):∃ a n c,v=.slice a n c:=by
 rcases Go.Deep.open_slice Tryz.underlying26 h with⟨hcs,_⟩ | ⟨A,l,c,m,n,D,Pl,hcs,_⟩
 ·cases hcs;exact⟨_,_,_,rfl⟩
 cases hcs;exact⟨_,_,_,rfl⟩
end
end Ga
end Go.Proofs.YtpoifdokmjhclaaGreat
