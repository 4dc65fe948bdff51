import Derived.Test.YtpoifdokmjhclaaGreatJyo
set_option maxRecDepth 100000
set_option maxHeartbeats 8000000
namespace Go.Proofs.YtpoifdokmjhclaaGreat
section
namespace Gn
open Go.RowKit Go.Lib Pg Lim Gl Mg
attribute [local go_sem] Oper.semAt_some
set_option linter.unusedVariables false
set_option linter.unusedSimpArgs false
section
variable {B m gl k n b c:Nat}{w:World}{F:Nat->Prop}{ao:Option Addr}{A l:List Int}
structure Ls(B:Nat)(w:World)(ao:Option Addr)(m gl k:Nat)(A:List Int)(T:TypeId):Prop where
 ex:(ao=none/\m=0/\A=[])\/(ao=some ⟨gl,0,none⟩/\B<=gl/\Blk w gl (A.map (Value.int .u64)) T/\A.length=m * k)
theorem Ls.chg{w':World}{T:TypeId}(h:Ls B w ao m gl k A T)(c:Chg F w w')(hF:∀ b,F b->b < B):Ls B w' ao m gl k A T:=⟨h.ex.imp id λq=>⟨q.1,q.2.1,q.2.2.1.chg c (λe=>by have:=hF _ e;have:=q.2.1;omega),q.2.2.2⟩⟩
theorem Ls.low{B':Nat}{T:TypeId}(h:Ls B w ao m gl k A T)(hB:B'<=B):Ls B' w ao m gl k A T:=⟨h.ex.imp id λq=>⟨q.1,Nat.le_trans hB q.2.1,q.2.2⟩⟩
theorem Ls.len{T:TypeId}(h:Ls B w ao m gl k A T):A.length=m * k:=h.ex.elim (λq=>by rw[q.2.1,q.2.2];simp) (λq=>q.2.2.2)
theorem Ls.nl{T:TypeId}(h:Ls B w ao m gl k A T)(hr:∀ x∈A,In8 x):Nl w ao m k gl 0 A:=by
 refine⟨h.len,λhm=>?_,λi hi=>?_,hr⟩
 ·rcases h.ex with q | q
  ·have:=q.2.1;omega
  exact q.1
 rcases h.ex with q | q
 ·rw[q.2.1] at hi;omega
 have a:=h.len;have:=q.2.2.1.cell (i:=0+i) (v:=.int .u64 (nth A i)) (by rw[Nat.zero_add,List.getElem?_map,List.getElem?_eq_getElem (by omega),Option.map_some,cF (by omega)]);exact this
def zG:Ge:=⟨[0,0,0,0,0,0,0,0,0,0],[],[]⟩
structure GeV(B:Nat)(w:World)(v:Value)(g:Ge):Prop where
 ex:∃ p0 p1 p2 p3 p4 p5 p6 p7 p8 p9 a1 m1 g1 a2 m2 g2,v=.agg #[.int .u64 p0,.int .u64 p1,.int .u64 p2,.int .u64 p3,.int .u64 p4,.int .u64 p5,.int .u64 p6,.int .u64 p7,.int .u64 p8,.int .u64 p9,.slice a1 m1 m1,.slice a2 m2 m2]/\g.p=[p0,p1,p2,p3,p4,p5,p6,p7,p8,p9]/\Ls B w a1 m1 g1 2 g.a 43/\Ls B w a2 m2 g2 3 g.v 45
theorem d_mk{v n m:Int}{P V:List Int}{s1 s2 s3 s4:St}(e1:rU 4 (0,l)=(v,s1))(e2:rN 10 s1=(P,s2))(e3:rL 256 2 s2=((n,A),s3))(e4:rL 64 3 s3=((m,V),s4)):gD l=⟨P,A,V⟩/\sV l=s4/\gP l=(((false || (v != 1196183089)) || !decide (n<=256)) || !decide (m<=64)):=by
 have c:sH l=s1:=by unfold sH;rw[e1]
 have a:sP l=s2:=by unfold sP;rw[c,e2]
 have b:sA l=s3:=by unfold sA;rw[a,e3]
 have d:sV l=s4:=by unfold sV;rw[b,e4]
 refine⟨by unfold gD;rw[c,a,b,e2,e3,e4],d,?_⟩;unfold gP bad;rw[e1,a,b,e3,e4];by_cases hv:v=mk0
 ·subst hv;simp[mk0]
 have:(v != 1196183089)=true:=by simpa[mk0] using hv
 simp[this,hv]
theorem zm(h:65536 < l.length:=by omega):eD l=211:=by unfold eD;rw[if_pos h]
theorem Dh{b:Bool}(hb:(decide (bS (sV l).1 (sV l).2=0) && !gP l)=b)(h:¬ 65536 < l.length:=by omega):eD l=if b then 0 else 210:=by
 unfold eD;rw[if_neg h];subst hb;by_cases a:bS (sV l).1 (sV l).2=0<;>cases h2:gP l<;>simp[a]
theorem BL(A:ByA w b ao n c l)(hn:n<=1000000000):CP 17 #[.slice ao n c] w λe w'=>∃ r q br,e=.returned (pg r)/\(w.heap.size<=r/\w.heap.size<=q/\r≠q)/\Blk w' r [pg q,bF] 108/\RdA w' q br ((0:Int),l).1 ((0:Int),l).2/\BW w w':=by
 have a:=Below.refl w.heap.size w;refine af (n:=7) Tryz.func17 rfl ?_
 refine sr<|tz 1<|nx<|tz 1<|tc 4 44 #[.slice ao n c] (kW A) ?_
 rintro _ v1 ⟨q,br,rfl,⟨hq,-,-⟩,h,B⟩;have a:=ae a B
 have d:RdA _ q br ((0:Int),l).1 ((0:Int),l).2:=h;have i:=d.lt;refine⟨_,rfl,tz 1<|ta 6 [pg q,.bool false] 108 (pg) ?_⟩;intro v2 r X j B;have g:=Nat.le_trans a.size j
 have f:r≠q:=by omega
 have a:=ae a B;have d:=d.keep B;refine tz 1<|nr<|ah (pg r) (rs1 2) ?_
 exact⟨r,q,br,rfl,⟨g,hq,f⟩,X,d,a⟩
theorem jC(A:ByA w b ao n c l)(hn:n<=1000000000):CP 8 #[.slice ao n c] w λe w'=>∃ v,e=.returned (.tuple #[v,iI (eD l)])/\GeV w.heap.size w' v (if eD l=0 then gD l else zG)/\BW w w':=by
 have f:=Below.refl w.heap.size w
 have hl:l.length=n:=by
  obtain⟨o,h1,_⟩:=A.ex;exact h1
 refine af (n:=32) Tryz.func8 rfl ?_
 refine sr<|ta 2 cl0 28 (pg) ?_
 intro v1 g2 a hg2 B;have zg2:=Nat.le_trans f.size hg2;have f:=ae f B;refine tz 1<|nt<|ag<|sr<|tz 2 ?_
 by_cases c3:(65536:Int) < ((n:Nat):Int)
 ·refine tq 8 (.bool (decide ((65536:Int) < ((n:Nat):Int)))) (bT) (congrArg Value.bool (decide_eq_true c3))<|nt<|aL<|sr<|tz 1<|tsw a cl0 ?_
  intro v4 Y C;have f:=aF f C;have a:=Y;refine tz 1<|nr<|bE<|ah (.tuple #[.agg #[iU 0,iU 0,iU 0,iU 0,iU 0,iU 0,iU 0,iU 0,iU 0,iU 0,zS,zS],iI 211]) (dk (T:=28) 2 3 (lr a 0)) ?_
  have E:=zm (l:=l);rw[E];exact⟨_,rfl,by rw[if_neg (by decide)];exact⟨⟨0,0,0,0,0,0,0,0,0,0,none,0,0,none,0,0,rfl,rfl,⟨.inl ⟨rfl,rfl,rfl⟩⟩,⟨.inl ⟨rfl,rfl,rfl⟩⟩⟩⟩,f⟩
 refine tq 8 (.bool (decide ((65536:Int) < ((n:Nat):Int)))) (bF) (congrArg Value.bool (decide_eq_false c3))<|nt<|nk<|sr<|tz 1 ?_
 have k:=a.lt;have sB:=f.size;refine tc 11 17 #[.slice ao n c] (BL (A.keep f) (by omega)) ?_
 rintro _ v5 ⟨r,q,br,rfl,⟨hr,hq,z⟩,X,j,B⟩;have f:=ae f B;have a:=a.keep B;have x:=j.lt;have lXr:=X.lt;have hr0:=Nat.le_trans sB hr;have hq0:=Nat.le_trans sB hq;refine⟨_,rfl,tz 1<|nx<|tz 1 ?_⟩;have k:=a.lt;have x:=j.lt;have Z:=X.lt;refine tc 13 18 #[pg r] (zY (s:=((0:Int),l)) X j z) ?_
 rintro _ v6 ⟨v,s1,E1,rfl,V,I,C⟩;have f:=vBl f C;have a:=bV a C (by omega);have X:=V;have j:=I;refine⟨_,rfl,nx<|tz 1 ?_⟩;have k:=a.lt;have x:=j.lt;have Z:=X.lt;refine tc 15 19 #[pg r] (qW (s:=s1) X j z) ?_
 rintro _ v7 ⟨M,R,K,Q,N,P,S,O,L,J,s2,E2,rfl,I,U⟩;have f:=But.below U f (by omega) (Nat.le_refl _);have a:=But.blk U a (by omega);have X:=But.blk U X (by omega);have j:=I;refine⟨_,rfl,tz 1 ?_⟩;have k:=a.lt;have x:=j.lt;have Z:=X.lt;refine ta 5 cl0 28 (pg) ?_
 intro v8 g9 d hg9 B;have zg9:=Nat.le_trans f.size hg9;have f:=ae f B;have a:=a.keep B;have j:=j.keep B;have X:=X.keep B;refine tsw d [iU M,iU R,iU K,iU Q,iU N,iU P,iU S,iU O,iU L,iU J,zS,zS] ?_
 intro v10 Y C;have f:=aF f C;have a:=a.chg C (by omega);have j:=RdA.dc j d (by first | rfl | exact eh _ _ _) (by omega) (aU C);have X:=X.chg C (by omega);have d:=Y;refine nx<|tz 3 ?_
 have k:=a.lt;have x:=j.lt;have Z:=X.lt;have H:=d.lt;refine tc 20 20 #[pg r,.int .u32 256,.func (.func 21) #[pg r] #[]] (readP (s:=s2) X j z) ?_
 rintro _ v11 ⟨m,g,W,F,A1,s3,F1,rfl,V,I,C,p⟩;have f:=vBl f C;have a:=bV a C (by omega);have d:=bV d C (by omega);have X:=V;have j:=I
 have p:Ls v10.heap.size _ m g W 2 A1 43:=⟨p⟩
 have sD1:=f.size;refine⟨_,rfl,tz 1<|ts d 10 (.slice m g g) [.slice m g g] [iU M,iU R,iU K,iU Q,iU N,iU P,iU S,iU O,iU L,iU J,.slice m g g,zS] ?_⟩;intro v12 Y C;have f:=aF f C;have a:=a.chg C (by omega);have j:=RdA.dc j d (by first | rfl | exact eh _ _ _) (by omega) (aU C);have X:=X.chg C (by omega);have p:=p.chg C (λb h=>by have h:b=g9:=h;omega);have d:=Y;refine nt<|aA [(2,pg g2),(3,iI 0),(4,pg r),(5,pg g9)]<|sr<|tz 3 ?_
 have k:=a.lt;have x:=j.lt;have Z:=X.lt;have H:=d.lt;refine tc 25 22 #[pg r,.int .u32 64,.func (.func 23) #[pg r] #[]] (readF (s:=s3) X j z) ?_
 rintro _ v13 ⟨u,i,aa,G,A2,s4,F2,rfl,V,I,C,D⟩;have f:=vBl f C;have a:=bV a C (by omega);have d:=bV d C (by omega);have p:=p.chg C (λb h=>by rcases h with h | h<;>omega);have X:=V;have j:=I
 have D:Ls v12.heap.size _ u i aa 3 A2 45:=⟨D⟩
 have sD2:=f.size;refine⟨_,rfl,tz 1<|ts d 11 (.slice u i i) [.slice u i i] [iU M,iU R,iU K,iU Q,iU N,iU P,iU S,iU O,iU L,iU J,.slice m g g,.slice u i i] ?_⟩;intro v14 Y C;have f:=aF f C;have a:=a.chg C (by omega);have j:=RdA.dc j d (by first | rfl | exact eh _ _ _) (by omega) (aU C);have X:=X.chg C (by omega);have p:=p.chg C (λb h=>by have h:b=g9:=h;omega);have D:=D.chg C (λb h=>by have h:b=g9:=h;omega);have d:=Y;refine nt<|ag<|sr<|tz 1 ?_
 have k:=a.lt;have x:=j.lt;have Z:=X.lt;have H:=d.lt;refine tc 28 24 #[pg r] (xz (s:=s4) X j z) ?_
 rintro _ v15 ⟨rfl,I,U⟩;have f:=But.below U f (by omega) (Nat.le_refl _);have a:=But.blk U a (by omega);have X:=But.blk U X (by omega);have d:=But.blk U d (by omega);have p:=p.chg (chgU U) (λb h=>by have h:b=q:=h;omega);have D:=D.chg (chgU U) (λb h=>by have h:b=q:=h;omega);refine⟨_,rfl,t 29 (.bool (!(decide (bS s4.1 s4.2=0) && !(((false || (v != 1196183089)) || !decide (F<=256)) || !decide (G<=64)))))<|nt ?_⟩;rcases Bool.eq_false_or_eq_true (!(decide (bS s4.1 s4.2=0) && !(((false || (v != 1196183089)) || !decide (F<=256)) || !decide (G<=64)))) with y | y
 ·refine aL (hc:=congrArg Value.bool y)<|sr<|tz 1<|tsw a cl0 ?_
  intro v17 Y C;have f:=aF f C;have X:=X.chg C (by omega);have d:=d.chg C (by omega);have p:=p.chg C (λb h=>by have h:b=g2:=h;omega);have D:=D.chg C (λb h=>by have h:b=g2:=h;omega);have a:=Y;refine t 3 (iI 210)<|nr<|bE<|ah (.tuple #[.agg #[iU 0,iU 0,iU 0,iU 0,iU 0,iU 0,iU 0,iU 0,iU 0,iU 0,zS,zS],iI 210]) (dk (T:=28) 2 3 (lr a 0)) ?_
  obtain⟨z1,z2,z3⟩:=d_mk E1 E2 F1 F2;have E:=Dh (l:=l) (b:=false) (by rw[z2,z3];revert y;cases (decide (bS s4.1 s4.2=0) && !(((false || (v != 1196183089)) || !decide (F<=256)) || !decide (G<=64)))<;>simp);rw[E];exact⟨_,rfl,by rw[if_neg (by decide)];exact⟨⟨0,0,0,0,0,0,0,0,0,0,none,0,0,none,0,0,rfl,rfl,⟨.inl ⟨rfl,rfl,rfl⟩⟩,⟨.inl ⟨rfl,rfl,rfl⟩⟩⟩⟩,f⟩
 refine aX (hc:=congrArg Value.bool y)<|aT<|aj<|sr<|tlr 31 [iU M,iU R,iU K,iU Q,iU N,iU P,iU S,iU O,iU L,iU J,.slice m g g,.slice u i i] d 0<|tsw a [iU M,iU R,iU K,iU Q,iU N,iU P,iU S,iU O,iU L,iU J,.slice m g g,.slice u i i] ?_
 intro v18 Y C;have f:=aF f C;have X:=X.chg C (by omega);have d:=d.chg C (by omega);have p:=p.chg C (λb h=>by have h:b=g2:=h;omega);have D:=D.chg C (λb h=>by have h:b=g2:=h;omega);have a:=Y;refine tz 1<|nt ?_
 refine bB<|ah (.tuple #[.agg #[iU M,iU R,iU K,iU Q,iU N,iU P,iU S,iU O,iU L,iU J,.slice m g g,.slice u i i],iI 0]) (dk (T:=28) 2 3 (lr a 0)) ?_
 obtain⟨z1,z2,z3⟩:=d_mk E1 E2 F1 F2;have E:=Dh (l:=l) (b:=true) (by rw[z2,z3];revert y;cases (decide (bS s4.1 s4.2=0) && !(((false || (v != 1196183089)) || !decide (F<=256)) || !decide (G<=64)))<;>simp);rw[E];exact⟨_,rfl,by rw[if_pos rfl,z1];exact⟨⟨_,_,_,_,_,_,_,_,_,_,_,_,W,_,_,aa,rfl,rfl,p.low (by omega),D.low (by omega)⟩⟩,f⟩
end
end Gn
end
section
namespace Mg
open Go.RowKit Go.Lib Pg Lim Gl
set_option linter.unusedVariables false
end Mg
end
section
namespace Mg
open Go.RowKit Go.Lib Pg Lim Gl
set_option linter.unusedVariables false
set_option linter.unusedSimpArgs false
end Mg
end
section
namespace Mg
open Go.RowKit Go.Lib Pg Lim Gl
section
variable {B g n:Nat}{w w':World}{cs:List Value}{L l:List Int}{ρ:Operand->Value}{a0 a1 ao:Option Addr}
theorem Blk.byt{t:TypeId}(h:Blk w g cs t)(b:Byt B w w')(ht:t≠5):Blk w' g cs t:=⟨by rw[b.typ g _ t _ h.blk ht];exact h.blk⟩
theorem mK(X:Blk w g (L.map (Value.int .u8)) 5)(a:B<=g)(hn:L.length=n)(hm:n<=1000000):cy w B (sg n g) L:=by
 subst hn;exact⟨by rw[List.length_map,Nat.mul_one],.inr ⟨g,L.length,(L.map (Value.int .u8)).toArray,rfl,a,X.blk,Nat.le_refl _,by unfold maxLen;omega,by simp,by rw[Nat.mul_one,List.take_of_length_le (by simp)]⟩⟩
theorem Fw(X:Blk w g (l.map (Value.int .u8)) 5)(ho:aJ l)(a:l.length<=1000000):ByA w g (some ⟨g,0,none⟩) l.length l.length l:=by
 obtain⟨b,k,c,e,-,A⟩:=(mK X (Nat.le_refl g) rfl a).bya ho
 cases e;obtain⟨o,j,d,f,h,m⟩:=A.ex
 exact⟨0,j,d,f,h,.inr rfl,λi hi=>by
  rw[Nat.zero_add]
  exact X.cell (by rw[List.getElem?_map,List.getElem?_eq_getElem hi,cF hi];rfl)⟩
theorem pX{o:Oper}{u v r:Value}(hr:(Builtin.append_ #[29,29] 29 #[u,v]).run Tryz.prog w=.ok r w')(ho:∃ x y,o.op=.call { callee:=.builtin .append,args:=#[x,y],argTypes:=#[29,29] }/\o.type=29/\ρ x=u/\ρ y=v:=by exact⟨_,_,rfl,rfl,by kernel_rfl,by kernel_rfl⟩):(execOp ρ o).run Tryz.prog w=.ok (.value r) w':=by
 obtain⟨x,y,h,b,c,a⟩:=ho;unfold execOp;simp only[h,b,resolve,invoke,builtin,Sem.run_bind,Sem.run_pure,Result.andThen_ok,List.map_toArray,List.map_cons,List.map_nil,c,a,hr]
theorem bytT{b0 b1 n0 c0 a c1:Nat}(h0:ByA w b0 a0 n0 c0 l)(h1:ByA w b1 a1 a c1 l)(hn:l.length≤100000:=by omega) :
    CP 10 #[.slice a0 n0 c0,.slice a1 a c1] w λe w'=>e=.returned (.bool true)∧BW w w':=by
  have b:l.length=n0:=by obtain⟨o,h,_⟩:= h0.ex;exact h
  have e1:l.length=a:=by obtain⟨o,h,_⟩:= h1.ex;exact h
  have h:=G9 h0 h1 (by omega)
  have e:eqB l l=true:=by simp[eqB]
  rw[e] at h;exact h
theorem rf_box{b c:Nat}(X:Blk w g [.slice ao n c,.int .i64 0] 70)(A:ByA w b ao n c l):RfA w g b ((0:Int),l).1 ((0:Int),l).2:=⟨ao,n,c,⟨X.blk⟩,A⟩
end
end Mg
end
section
namespace Rc
open Go.RowKit Go.Lib Pg Lim Gl
theorem mine0 {B:Nat} (w:World):cy w B (.slice none 0 0) []:=World.ownsRow_nil _ _ _ _
theorem vT:([]:List Int).length<=0:=Nat.le_refl 0
theorem Ex {L X:List Int} {a b:Nat} (h:L.length<=a) (h':X.length<=b):(L ++ X).length<=a+b:=by rw[List.length_append];omega
theorem len_u8 (xs:List Int):(xs.flatMap (be 8)).length<=8 * xs.length:=by
 induction xs with
 | nil=>exact Nat.le_refl _
 | cons x r ih=>rw[List.flatMap_cons,List.length_append,ax,List.length_cons];omega
theorem uR {w:World} {x0:Int} {x1:Int} {x2:Int} {x3:Int} {x4:Int} {x5:Int} {x6:Int} {x7:Int} {x8:Int} {x9:Int}  :
  CP 36 #[.agg #[iU x0,iU x1,iU x2,iU x3,iU x4,iU x5,iU x6,iU x7,iU x8,iU x9]] w λe w'=>∃ v,e=.returned v/\cy w' w.heap.size v (thr (pnx (λo=>([x0,x1,x2,x3,x4,x5,x6,x7,x8,x9]:List Int).getD o 0)) [(0,0),(0,1),(0,2),(0,3),(0,4),(0,5),(0,6),(0,7),(0,8),(0,9)] [])/\BW w w':=by
 have b:=Below.refl w.heap.size w;refine af (n:=25) Tryz.func36 rfl ?_
 refine sr<|ta 1 [.int .u64 x0,.int .u64 x1,.int .u64 x2,.int .u64 x3,.int .u64 x4,.int .u64 x5,.int .u64 x6,.int .u64 x7,.int .u64 x8,.int .u64 x9] 24 (pg) ?_
 intro v1 l a j B;have b:=ae b B;refine tz 1<|nx<|tz 1<|tl 4 (.int .u64 x0) a 0<|tz 1<|tl 6 (.int .u64 x1) a 1<|tz 1<|tl 8 (.int .u64 x2) a 2<|tz 1<|tl 10 (.int .u64 x3) a 3<|tz 1<|tl 12 (.int .u64 x4) a 4<|tz 1<|tl 14 (.int .u64 x5) a 5<|tz 1<|tl 16 (.int .u64 x6) a 6<|tz 1<|tl 18 (.int .u64 x7) a 7<|tz 1<|tl 20 (.int .u64 x8) a 8<|tz 1<|tl 22 (.int .u64 x9) a 9<|ta 23 [.int .u64 x0,.int .u64 x1,.int .u64 x2,.int .u64 x3,.int .u64 x4,.int .u64 x5,.int .u64 x6,.int .u64 x7,.int .u64 x8,.int .u64 x9] 22 (sg 10) ?_
 intro k g c i B;have b:=ae b B;have a:=a.keep B;refine tc 24 55 #[.slice none 0 0,sg 10 g] (ru8 (xs:=[x0,x1,x2,x3,x4,x5,x6,x7,x8,x9]) (mine0 _) b.size c (Nat.le_trans vT (Nat.le_of_ble_eq_true rfl)) (Nat.le_of_ble_eq_true rfl)) ?_
 rintro _ v6 ⟨d,rfl,h,Y⟩;have b:=Byt.below Y b (Nat.le_refl _) (Nat.le_refl _);have a:=Blk.byt a Y (by decide);have c:=Blk.byt c Y (by decide);have f:=Ex vT (len_u8 [x0,x1,x2,x3,x4,x5,x6,x7,x8,x9]);refine⟨_,rfl,tz 1<|nt<|aA [(2,d)]<|bB<|ah (d) (rs1 2) ?_⟩;exact⟨_,rfl,by simpa[thr,pnx,gZ] using h,b⟩
end Rc
end
end Go.Proofs.YtpoifdokmjhclaaGreat
