import Derived.Test.YtpoifdokmjhclaaGreatJyB
set_option maxRecDepth 100000
set_option maxHeartbeats 8000000
namespace Go.Proofs.YtpoifdokmjhclaaGreat
section
namespace Fo
open Go.RowKit Go.Lib Pg Lim Gl Kv Bk Pw Sd Di
attribute [local go_sem] Oper.semAt_some
set_option linter.unusedVariables false
set_option linter.unusedSimpArgs false
section
variable {B:Nat} {w:World} {K:Nat->Prop} {g:Nat} {E E0:aD} {W:List aD} {n N:Nat}
theorem Dp (h:Sx B w K g E W n N) (a:W.length < 16:=by decide):CP 133 #[pg g] w (SxE B w K g E (E :: W) n N (.int .i64 0)):=by
 have u:=sbegin h.sa;rw[if_neg (by omega),if_neg (by omega)] at u;exact h.ends u
theorem Fz (h:Sx B w K g E (E0 :: W) n N) (hN:N<=100000000):CP 137 #[pg g] w (SxE B w K g E W n N (.int .i64 0)):=h.ends (by simpa using Gp h.sa hN)
theorem yd (h:Sx B w K g E (E0 :: W) n N) (hN:N<=100000000):CP 136 #[pg g] w (SxE B w K g E0 W n N (.int .i64 0)):=h.ends (by simpa using yg h.sa hN)
theorem xhas {kv:Value} {k:List Int} (h:Sx B w K g E W n N) (hk:ByU w kv k) (hn:n<=4000000000000000000:=by omega) (a:N<=100000000:=by omega):CP 94 #[pg g,kv] w (SxE B w K g E W (n+1) N (.bool (Kv.look E k).isSome)):=by
 refine(shas h.sa (h.bk hk) hn a).mono ?_
 rintro e b ⟨rfl,S,C⟩;exact⟨rfl,K,⟨S,Nat.le_trans h.lo C.size,h.kb⟩,λ_ q=>.inl q,C⟩
end
section
variable {w:World}{B n N g P n0:Nat}{K:Nat->Prop}{W W':List aD}{E E':aD}{args:Array Value}{r:Value}{k a b tk h x pe id x0:Int}{v:List Int}{a0:Option Addr}
theorem Ut.opW{j w':World}{g0 g N':Nat}{k f:Nat->Prop}{bs:List Bx}{i:List Nx}(h:Ut j k B g0 W w K E n N bs i)(S:Sx B w' f g0 E' W' g N')(c:∀ b,f b->K b\/w.heap.size<=b)(hC:Chg K w w'):Ut j k B g0 W' w' f E' g N' bs i:=⟨h.ta.op S c hC,λp a=>⟨(h.b p a).1.chg hC (h.b p a).2.1,wC (h.b p a).1 (h.b p a).2.1 c,(h.b p a).2.2⟩,λr l=>(h.q r l).op c hC,h.e,h.d⟩
theorem wP{r r':Bool}(h:CP P args w (SxE B w K g E W n N (.bool r)))(hr:r=r'):CP P args w (SxE B w K g E W n N (.bool r')):=by
 subst hr;exact h
theorem mk_s(c:Ky.mkE k a b=false){kv vv:Value}(h:Sx B w K g E W n N)(hk:ByU w kv (Ky.mk k a b))(hv:ByU w vv v)(d:v.length<=4096)(hn:n<=4000000000000000000:=by omega)(e:N+2<=100000000:=by omega):CP 86 #[pg g,kv,vv] w (SxE B w K g (put E (Ky.mk k a b) v) W (n+1) (N+2) (.int .i64 0)):=qset h hk c hv d hn e
theorem SxE.iW{m M:Nat}(h:CP P args w (SxE B w K g E W m M r))(hE:E=E'):CP P args w (SxE B w K g E' W m M r):=by
 subst hE;exact h
theorem yz(g:0<=a/\a < 18446744073709551616)(d:Ky.mkE k a b=false):CP 87 #[iI k,iU a,iU b] w λe w'=>∃ v,e=.returned v/\ByU w' v (Ky.mk k a b)/\BW w w':=by
 have c:=Below.refl w.heap.size w;refine af (n:=18) Tryz.func87 rfl ?_
 refine sr<|tz 1<|nx<|tz 4<|tc 14 72 #[.agg #[.int .i64 k,.int .u64 a,.int .u64 b]] (qG g d) ?_
 rintro _ v1 ⟨v,rfl,f,B⟩;have c:=ae c B;refine⟨_,rfl,tz 5<|nt<|aA [(6,.slice none 0 0),(7,v)]<|sr<|tz 2<|nr<|ah (v) (rs1 6) ?_⟩;exact⟨_,rfl,f,c⟩
theorem Af{sh:Int}{c0:Nat}(h0:aW w a0 n0 c0 0)(ht:0<=sh/\sh < 18446744073709551616)(k0:n0<=1000000:=by omega)(l:¬ sh=0:=by decide):CP 141 #[iU tk,.agg #[.slice a0 n0 c0],iU sh] w (NtE 0 w (· <= 40) (sh * U36)):=by
 have d:=Below.refl w.heap.size w;refine af (n:=42) Tryz.func141 rfl ?_
 refine sr<|ta 4 [.slice a0 n0 c0] 55 (pg) ?_
 intro v1 q a r B;have d:=ae d B;have e:=a.lt;refine ta 6 [zS] 55 (pg) ?_
 intro v m c p B;have d:=ae d B;have a:=a.keep B;refine tz 1<|nt<|ag<|aB<|sr<|tz 1<|tq 12 (.bool ((sh:Int) == 0)) (bF) (congrArg Value.bool (beq_eq_false_iff_ne.2 l))<|tz 1<|nt<|aX<|sr<|tlr 15 [.slice a0 n0 c0] a 0 ?_
 have e:=a.lt;have h:=c.lt;refine tc 16 181 #[.agg #[.slice a0 n0 c0]] (dZ (h0.keep d) (by omega) (b:=true) (by decide)) ?_
 rintro _ x ⟨rfl,B⟩;have d:=ae d B;have a:=a.keep B;have c:=c.keep B;refine⟨_,rfl,tz 1<|nt<|aA [(0,iU tk),(2,iU sh),(4,pg q),(6,pg m),(7,iI 0),(14,bT)]<|aL<|sr<|tz 1 ?_⟩;have e:=a.lt;have h:=c.lt;refine tc 18 182 #[iU sh] (eOf ht) ?_
 rintro _ t ⟨i,g,j,k,rfl,f,s,o,B⟩;have d:=ae d B;have a:=a.keep B;have c:=c.keep B;refine⟨_,rfl,tsw c [.slice i g j] ?_⟩;intro u Y C;have d:=aF d C;have a:=a.chg C (by omega);have f:=f.cell C (show g=0\/k≠m by omega);have c:=Y;refine tz 1<|nr<|kx<|bE<|ah (.tuple #[.agg #[.slice i g j],iI 0]) (dk (T:=55) 6 7 (lr c 0)) ?_
 exact⟨_,_,_,_,rfl,f,by omega,by omega,d⟩
def cav(h x:Int):List Int:=Rc.thr (Rc.pnx (λo=>([h,x]:List Int).getD o 0)) [(0,0),(0,1)] []
theorem wD:(cav h x).length<=4096:=by have:=Rc.dA (λo=>([h,x]:List Int).getD o 0) [(0,0),(0,1)] [];simp only[List.length_cons,List.length_nil] at this;unfold cav;omega
theorem Bf:CP 89 #[.agg #[.int .u64 h,.int .u64 x]] w λe w'=>∃ v,e=.returned v/\ByU w' v (cav h x)/\BW w w':=by
 refine(Rc.qh).mono ?_
 rintro e w' ⟨b,n,rfl,hn,X,hb,B⟩;exact⟨_,rfl,gQ X (Rc.gX _ _ _ (λ_ h=>by simp at h)) hn (Nat.le_trans wD (by decide)),B⟩
structure HoV(B:Nat)(w:World)(K:Nat->Prop)(g:Nat)(E':aD)(W:List aD)(n N:Nat)(p x4 xs:Int)(n0 n4:Nat)(e:Ending)(w':World):Prop where
 ex:∃ b0 k0 d0 y0 b1 k1 d1 y1 K' n' N',e=.returned (.agg #[.slice b0 k0 d0,.int .u64 p,.slice b1 k1 d1])/\Sx B w' K' g E' W n' N'/\n'<=n+10/\N'<=N+10/\(∀ b,K' b->K b\/w.heap.size<=b)/\Chg K w w'/\Nq w' K' y0 b0 k0 d0 (x4)/\k0<=n4+1/\(k0=0\/w.heap.size<=y0)/\Nq w' K' y1 b1 k1 d1 (xs)/\k1<=n0+n4+40/\(k1=0\/w.heap.size<=y1)
theorem HoE.cast{x4 p xs:Int}{a:Nat}(h:CP P args w (HoE B w K g E W n N tk pe id x0 x4 n0 a))(hp:(pe - 1) % 18446744073709551616=p)(b:jz E id p=E')(hx:x4 * (tk * U36) / x0=xs):CP P args w (HoV B w K g E' W n N p x4 xs n0 a):=by
 subst hp b hx;exact h.mono λe c h=>⟨h.ex⟩
structure ClV(B:Nat)(w:World)(K:Nat->Prop)(g:Nat)(E':aD)(W:List aD)(n N:Nat)(rt tk:Int)(jl:Bool)(un:Int)(bo:Bool)(pq x0 x1 x2 x3:Int)(n0 n1 n2 n3:Nat)(e:Ending)(w':World):Prop where
 ex:∃ b0 k0 d0 y0 b1 k1 d1 y1 b2 k2 d2 y2 b3 k3 d3 y3 K' n' N',e=.returned (.tuple #[.agg #[.int .u64 rt,.int .u64 tk,.slice b0 k0 d0,.bool jl,.int .u64 un,.bool bo,.int .u64 pq,.slice none 0 0,.slice b2 k2 d2,.slice b3 k3 d3],.agg #[.slice b1 k1 d1]])/\Sx B w' K' g E' W n' N'/\n'<=n+20/\N'<=N+20/\(∀ b,K' b->K b\/w.heap.size<=b)/\Chg K w w'/\Nq w' K' y0 b0 k0 d0 (x0)/\k0<=n0+1/\(k0=0\/w.heap.size<=y0)/\Nq w' K' y1 b1 k1 d1 ((if tk=0 then x1 else 0))/\k1<=n1+1/\(k1=0\/w.heap.size<=y1)/\Nq w' K' y2 b2 k2 d2 ((if tk=0 then sL x2 x1 else x2))/\k2<=n2+1/\(k2=0\/w.heap.size<=y2)/\Nq w' K' y3 b3 k3 d3 (x3)/\k3<=n3+1/\(k3=0\/w.heap.size<=y3)
theorem ClE.cast{rt un x1 x2 x3 pq:Int}{jl bo:Bool}{b c a:Nat}(h:CP P args w (ClE B w K g E W n N rt tk jl un bo pe id x0 x1 x2 x3 n0 b c a))(hp:(pe+1) % 18446744073709551616=pq)(d:um E id pe tk x1=E'):CP P args w (ClV B w K g E' W n N rt tk jl un bo pq x0 x1 x2 x3 n0 b c a):=by
 subst hp d;exact h.mono λe f h=>⟨h.ex⟩
theorem SxF.iW(h:CP P args w (SxF B w K g E W n N r))(hE:E=E'):CP P args w (SxF B w K g E' W n N r):=by
 subst hE;exact h
theorem nN{r r':Int}(h:CP P args w (SxF B w K g E W n N (.int .i64 r)))(hE:E=E')(hr:r=r'):CP P args w (SxF B w K g E' W n N (.int .i64 r')):=by
 subst hE hr;exact h
theorem pO{c d:Int}(h:CP P args w (SxE B w K g E W n N (.agg #[.int .u64 a,.int .u64 b])))(e:a=c)(hb:b=d):CP P args w (SxE B w K g E W n N (.agg #[.int .u64 c,.int .u64 d])):=by
 subst e hb;exact h
def e1:aD:=put [] (Ky.mk 1 0 0) (pav 1 1 1 0 0 0 0 0 0 16)
def e2:aD:=put e1 (Ky.mk 2 0 0) (cav 0 1)
def e3:aD:=ja e2 16 100
theorem lW(h:Sx B w K g [] W n N)(hn:n<=100000:=by omega)(p:N<=100000:=by omega):CP 65 #[pg g,.agg #[iU 1,iU 1,iU 1,iU 0,iU 0,iU 0,iU 0,iU 0,iU 0,iU 16]] w (λe w'=>∃ K' n' N',e=.returned (.tuple #[])/\Sx B w' K' g e1 W n' N'/\n'<=n+300/\N'<=N+300/\(∀ b,K' b->K b\/w.heap.size<=b)/\Chg K w w'):=by
 have U:=dR h;refine af (n:=9) Tryz.func65 rfl ?_
 refine sr<|ta 3 cl6 24 (pg) (U.nw ?_)
 intro v1 k U;refine nt ?_
 have U:=U.drew;refine gd1 (U.bk 0 rfl) ?_
 refine z 0 4 (pg g)<|zlr 2 6 cl6 (λ_ h=>h) 0<|zc 1 5 87 #[.int .i64 1,.int .u64 0,.int .u64 0] (yz ⟨by decide,by decide⟩ (by kernel_rfl)) ?_
 rintro _ o ⟨a,rfl,d,B⟩;have U:=U.keep B;refine⟨_,rfl,(U.bk 0 rfl),zc 3 7 88 #[.agg #[.int .u64 1,.int .u64 1,.int .u64 1,.int .u64 0,.int .u64 0,.int .u64 0,.int .u64 0,.int .u64 0,.int .u64 0,.int .u64 16]] (ya) ?_⟩;rintro _ l ⟨c,rfl,j,B⟩;have U:=U.keep B;have d:=cO d B;refine⟨_,rfl,(U.bk 0 rfl),zc 4 8 86 #[pg g,a,c] (SxE.iW (mk_s (by kernel_rfl) U.ta.sx d j wy) (show _=e1 from rfl)) ?_⟩;rintro _ v10 ⟨rfl,m,S,i,f⟩;have U:=U.op S i f;refine⟨_,rfl,(U.bk 0 rfl),aS<|bh (.tuple #[]) (rs0) ?_⟩;exact⟨_,_,_,rfl,U.ta.sx,by omega,by omega,U.ta.km,U.ta.cc⟩
theorem mN(h:Sx B w K g e1 W n N)(hn:n<=100000:=by omega)(p:N<=100000:=by omega):CP 66 #[pg g,.agg #[iU 0,iU 1]] w (λe w'=>∃ K' n' N',e=.returned (.tuple #[])/\Sx B w' K' g e2 W n' N'/\n'<=n+300/\N'<=N+300/\(∀ b,K' b->K b\/w.heap.size<=b)/\Chg K w w'):=by
 have U:=dR h;refine af (n:=9) Tryz.func66 rfl ?_
 refine sr<|ta 3 [.int .u64 0,.int .u64 1] 138 (pg) (U.nw ?_)
 intro v1 k U;refine nt ?_
 have U:=U.drew;refine gd1 (U.bk 0 rfl) ?_
 refine z 0 4 (pg g)<|zlr 2 6 [.int .u64 0,.int .u64 1] (λ_ h=>h) 0<|zc 1 5 87 #[.int .i64 2,.int .u64 0,.int .u64 0] (yz ⟨by decide,by decide⟩ (by kernel_rfl)) ?_
 rintro _ o ⟨a,rfl,d,B⟩;have U:=U.keep B;refine⟨_,rfl,(U.bk 0 rfl),zc 3 7 89 #[.agg #[.int .u64 0,.int .u64 1]] (Bf) ?_⟩;rintro _ l ⟨c,rfl,j,B⟩;have U:=U.keep B;have d:=cO d B;refine⟨_,rfl,(U.bk 0 rfl),zc 4 8 86 #[pg g,a,c] (SxE.iW (mk_s (by kernel_rfl) U.ta.sx d j wD) (show _=e2 from rfl)) ?_⟩;rintro _ v10 ⟨rfl,m,S,i,f⟩;have U:=U.op S i f;refine⟨_,rfl,(U.bk 0 rfl),aS<|bh (.tuple #[]) (rs0) ?_⟩;exact⟨_,_,_,rfl,U.ta.sx,by omega,by omega,U.ta.km,U.ta.cc⟩
end
end Fo
end
section
namespace Gl
open Go.RowKit Go.Lib Pg
def GN (n:Nat) (L L':List Nat):Bool:=(List.range n).all λi=>oH L i == oH L' i
theorem Au {n:Nat} {L L':List Nat} (h:GN n L L'=true):arr n L=arr n L':=by
 unfold arr;rw[List.map_congr_left λi hi=>by have:=List.all_eq_true.1 h i hi;simpa using this]
section
variable {P:Program} {n:Nat} {ds:List Deferred} {ops:Array Oper} {Q:Exit->Act->World->Prop} {S:World->Prop} {Z:Nat->Bool} {fuel:Nat} {L:List Nat} {l:Fr} {w:World}
theorem Ek {α:Type} (L':List Nat) (k:Nat) (a:α->Fr) (F:α->World->Prop) (h1:(∀ s w',F s w'->GZ P n ds ops Q S Z k L' (a s) w')->GZ P n ds ops Q S Z fuel L l w) (b:∀ s w',F s w'->GZ P n ds ops Q S Z k L' (a s) w'):GZ P n ds ops Q S Z fuel L l w:=h1 b
theorem pD {α:Type} {L':List Nat} {b:α->Fr} {F:α->World->Prop} (J:∀ s w',F s w'->GZ P n ds ops Q S Z fuel L' (b s) w') (s:α) (hF:F s w) (c:(b s).map (λp=>lk l p.1)=(b s).map (λp=>some p.2):=by kernel_rfl) (hL:GN ops.size L L'=true:=by kernel_rfl):GZ P n ds ops Q S Z fuel L l w:=⟨λok hS a r=>by rw[Au hL];exact(J s w hF).out ok hS a (r.sub (mR c))⟩
end
end Gl
end
end Go.Proofs.YtpoifdokmjhclaaGreat
