import Derived.Test.YtpoifdokmjhclaaGreatJgQ
set_option maxRecDepth 100000
set_option maxHeartbeats 8000000
namespace Go.Proofs.YtpoifdokmjhclaaGreat
namespace Fo
open Go.RowKit Go.Lib Pg Lim Gl Mg
set_option linter.unusedVariables false
section
variable {na nv c1 b1 g b n c:Nat}{w w':World}{p0 p1 p2 p3 p4 p5 p6 p7 p8 p9:Int}{A V L l:List Int}{a1 a2 ao a0:Option Addr}{v:Value}
theorem back0{g:Gn.Ge}(h:g.Ok na nv)(d:na<=256)(hv:nv<=64):Gn.eD (Gn.bG g na nv)=0/\Gn.gD (Gn.bG g na nv)=g/\(Gn.bG g na nv).length<=6000:=by
 obtain⟨-,a,b,c,-,-⟩:=Gn.AE h d hv [];rw[List.append_nil] at a b c;have e:=Gn.yA h;refine⟨?_,a,by omega⟩;unfold Gn.eD;rw[if_neg (by omega),b,c];rfl
theorem back1{g:Gn.Ge}(h:g.Ok na nv)(b:na<=256)(hv:nv<=64):Gn.eD (Gn.bG g na nv ++ [0])=210:=by
 obtain⟨-,d,a,e,-,-⟩:=Gn.AE h b hv [0];have c:=Gn.yA h;unfold Gn.eD;rw[if_neg (by rw[List.length_append,List.length_singleton];omega),a];rfl
theorem Fi{c2 j c f m:Nat}(h:Gn.Nl w a1 na 2 b1 j A)(a:Gn.Nl w a2 nv 3 c f V)(i:Gn.bG ⟨[p0,p1,p2,p3,p4,p5,p6,p7,p8,p9],A,V⟩ na nv=L)(hm:L.length=m)(g:na<=1000)(hv:nv<=1000):Calls Tryz.prog 11 #[.agg #[.int .u64 p0,.int .u64 p1,.int .u64 p2,.int .u64 p3,.int .u64 p4,.int .u64 p5,.int .u64 p6,.int .u64 p7,.int .u64 p8,.int .u64 p9,.slice a1 na c1,.slice a2 nv c2]] w fun e w'=>∃ b,e=.returned (.slice (some ⟨b,0,none⟩) m m)/\Blk w' b (L.map (Value.int .u8)) 5/\w.heap.size<=b/\Below w.heap.size w w':=by
 subst i;subst hm;refine(Gn.mZ h a g hv).mono ?_
 rintro e w' ⟨b,rfl,hb,Y,d⟩;exact⟨b,rfl,⟨Y.blk⟩,hb,d⟩
theorem cellC{i:Nat}(C:Chg (·=g) w w')(h:w.cell? ⟨b,i,none⟩=some v)(hne:b≠g):w'.cell? ⟨b,i,none⟩=some v:=by
 have e:=C.same b (aE h) hne;simp only[World.cell?] at h ⊢;rw[e];exact h
theorem nlC{k o:Nat}(N:Gn.Nl w ao n k b o l)(C:Chg (·=g) w w')(hb:0 < n->b≠g):Gn.Nl w' ao n k b o l:=⟨N.len,N.ptr,fun i hi=>cellC C (N.cell i hi) (hb (by rcases Nat.eq_zero_or_pos n with h | h;(rw[h] at hi;omega);exact h)),N.rng⟩
theorem dec_n(H:ByA w b ao n c l)(hn:n<=1000000000):Calls Tryz.prog 8 #[.slice ao n c] w fun e w'=>∃ p0 p1 p2 p3 p4 p5 p6 p7 p8 p9 a1 m1 g1 a2 m2 g2 A V,e=.returned (.tuple #[.agg #[.int .u64 p0,.int .u64 p1,.int .u64 p2,.int .u64 p3,.int .u64 p4,.int .u64 p5,.int .u64 p6,.int .u64 p7,.int .u64 p8,.int .u64 p9,.slice a1 m1 m1,.slice a2 m2 m2],.int .i64 (Gn.eD l)])/\(Gn.eD l=0->Gn.bG ⟨[p0,p1,p2,p3,p4,p5,p6,p7,p8,p9],A,V⟩ m1 m2=l/\m1<=1000/\m2<=1000/\l.length<=65536)/\Gn.Nl w' a1 m1 2 g1 0 A/\Gn.Nl w' a2 m2 3 g2 0 V/\(0 < m1->w.heap.size<=g1)/\(0 < m2->w.heap.size<=g2)/\Below w.heap.size w w':=by
 have p:aK l:=by
  obtain⟨o,_,_,_,k,_⟩:=H.ex;exact k
 refine(Gn.gJ H hn).mono ?_
 rintro e w' ⟨v,rfl,G,j⟩;obtain⟨p0,p1,p2,p3,p4,p5,p6,p7,p8,p9,a1,m1,g1,a2,m2,g2,rfl,i,d,f⟩:=G.ex
 have k1:0 < m1->w.heap.size<=g1:=fun h=>d.ex.elim (fun q=>by omega) (fun q=>q.2.1)
 have k2:0 < m2->w.heap.size<=g2:=fun h=>f.ex.elim (fun q=>by omega) (fun q=>q.2.1)
 by_cases g:Gn.eD l=0
 ·rw[if_pos g] at i d f;obtain⟨na,m,t,s,ok,hb,-,-⟩:=Gn.d_fwd p g;have e1:=d.len;have e2:=f.len;have e3:=ok.a;have e4:=ok.v;obtain rfl:m1=na:=by omega
  obtain rfl:m2=m:=by omega
  have r:Gn.gD l=⟨[p0,p1,p2,p3,p4,p5,p6,p7,p8,p9],(Gn.gD l).a,(Gn.gD l).v⟩:=by
   rw[<- i]
  exact⟨p0,p1,p2,p3,p4,p5,p6,p7,p8,p9,a1,m1,g1,a2,m2,g2,(Gn.gD l).a,(Gn.gD l).v,rfl,fun _=>⟨by rw[<- r];exact hb,by omega,by omega,(Gn.wc g).2⟩,d.nl ok.ra,f.nl ok.rv,k1,k2,j⟩
 ·rw[if_neg g] at i d f;exact⟨p0,p1,p2,p3,p4,p5,p6,p7,p8,p9,a1,m1,g1,a2,m2,g2,[],[],rfl,fun h=>absurd h g,d.nl (fun _ h=>absurd h List.not_mem_nil),f.nl (fun _ h=>absurd h List.not_mem_nil),k1,k2,j⟩
theorem dec_g(H:ByA w b ao n c L)(hn:n<=1000000000)(g:Gn.eD L=0)(u:Gn.gD L=⟨[p0,p1,p2,p3,p4,p5,p6,p7,p8,p9],A,V⟩)(ok:Gn.Ge.Ok ⟨[p0,p1,p2,p3,p4,p5,p6,p7,p8,p9],A,V⟩ na nv):Calls Tryz.prog 8 #[.slice ao n c] w fun e w'=>∃ a3 g3 a4 g4,e=.returned (.tuple #[.agg #[.int .u64 p0,.int .u64 p1,.int .u64 p2,.int .u64 p3,.int .u64 p4,.int .u64 p5,.int .u64 p6,.int .u64 p7,.int .u64 p8,.int .u64 p9,.slice a3 na na,.slice a4 nv nv],.int .i64 0])/\Gn.Nl w' a3 na 2 g3 0 A/\Gn.Nl w' a4 nv 3 g4 0 V/\Below w.heap.size w w':=by
 refine(Gn.gJ H hn).mono ?_
 rintro e w' ⟨v,rfl,G,t⟩;rw[if_pos g,u] at G;rw[g];obtain⟨q0,q1,y,p,s,q,o,l,x,k,a1,h,g1,a2,f,m,rfl,r,j,i⟩:=G.ex
 have d:[p0,p1,p2,p3,p4,p5,p6,p7,p8,p9]=[q0,q1,y,p,s,q,o,l,x,k]:=r
 cases d
 have e1:A.length=h * 2:=j.len
 have e2:V.length=f * 3:=i.len
 have e3:A.length=na * 2:=ok.a
 have e4:V.length=nv * 3:=ok.v;obtain rfl:h=na:=by omega
 obtain rfl:f=nv:=by omega
 exact⟨a1,g1,a2,m,rfl,j.nl ok.ra,i.nl ok.rv,t⟩
theorem tQ(H:ByA w b ao n c l):aK l/\l.length=n:=by
 obtain⟨o,h1,_,_,h4,_⟩:=H.ex;exact⟨h4,h1⟩
theorem bytS{b0 n0 c0 b:Nat}(a:ByA w b0 a0 n0 c0 l)(h1:ByA w b1 a1 b c1 l)(hn:l.length<=100000):Calls Tryz.prog 10 #[.slice a0 n0 c0,.slice a1 b c1] w fun e w'=>e=.returned (.bool true)/\Below w.heap.size w w':=by
 have c:=(tQ a).2;have e1:=(tQ h1).2;have h:=bSame a h1 (by omega) (by omega)
 have e:eqB l l=true:=by simp[eqB]
 rw[e] at h;exact h
end
end Fo
end Go.Proofs.YtpoifdokmjhclaaGreat
