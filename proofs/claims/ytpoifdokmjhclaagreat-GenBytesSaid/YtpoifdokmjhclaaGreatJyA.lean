import Derived.Test.YtpoifdokmjhclaaGreatJyz
set_option maxRecDepth 100000
set_option maxHeartbeats 8000000
namespace Go.Proofs.YtpoifdokmjhclaaGreat
section
namespace Fo
open Go.RowKit Go.Lib Pg Lim Gl Kv Bk Pw
set_option linter.unusedVariables false
theorem wC {w:World} {K K':Nat->Prop} {x:Nat} {cs:List Value} {t:TypeId} (X:Blk w x cs t) (h:¬ K x) (hK:∀ b,K' b->K b\/w.heap.size<=b):¬ K' x:=λq=>(hK x q).elim h (λq=>by have:=X.lt;omega)
abbrev Bx:=Nat × List Value × TypeId
abbrev Nx:=Nat × Option Addr × Nat × Nat × Int
structure Ut (w0:World) (K0:Nat->Prop) (B g0:Nat) (W:List aD) (w:World) (K:Nat->Prop) (E:aD) (n N:Nat) (bs:List Bx) (qs:List Nx):Prop where
 ta:Bk.At B w0 K0 w K g0 E W n N
 b:∀ p∈bs,Blk w p.1 p.2.1 p.2.2/\¬ K p.1/\w0.heap.size<=p.1
 q:∀ r∈qs,Nq w K r.1 r.2.1 r.2.2.1 r.2.2.2.1 r.2.2.2.2
 e:∀ p∈bs,∀ r∈qs,r.2.2.1=0\/r.1≠p.1
 d:bs.Pairwise (λa b=>a.1≠b.1)
section
variable {w0 w w':World} {B g0 n N n' N' g i:Nat} {K0 K K':Nat->Prop} {W:List aD} {E E':aD} {bs:List Bx} {qs:List Nx} {cs cs':List Value} {t:TypeId}
section
variable {z k d:Nat}{a:Option Addr}{x:Int}{R:World->Nat->Prop}
theorem Ut.lt(h:Ut w0 K0 B g0 W w K E n N bs qs):∀ p∈bs,p.1 < w.heap.size:=λp hp=>(h.b p hp).1.lt
theorem dR(h:Sx B w K g0 E W n N):Ut w K B g0 W w K E n N [] []:=⟨h.at,λ_ h=>(List.not_mem_nil h).elim,λ_ h=>(List.not_mem_nil h).elim,λ_ h=>(List.not_mem_nil h).elim,List.Pairwise.nil⟩
theorem Ut.keep(h:Ut w0 K0 B g0 W w K E n N bs qs)(b:BW w w'):Ut w0 K0 B g0 W w' K E n N bs qs:=⟨h.ta.keep b,λp hp=>⟨(h.b p hp).1.keep b,(h.b p hp).2⟩,λr hr=>(h.q r hr).keep b,h.e,h.d⟩
theorem Ut.drew(h:Ut w0 K0 B g0 W w K E n N bs qs):Ut w0 K0 B g0 W w.drew K E n N bs qs:=h.keep (Below.refl _ _).drew
theorem Ut.op(h:Ut w0 K0 B g0 W w K E n N bs qs)(S:Sx B w' K' g0 E' W n' N')(c:∀ b,K' b->K b\/w.heap.size<=b)(hC:Chg K w w'):Ut w0 K0 B g0 W w' K' E' n' N' bs qs:=⟨h.ta.op S c hC,λp a=>⟨(h.b p a).1.chg hC (h.b p a).2.1,wC (h.b p a).1 (h.b p a).2.1 c,(h.b p a).2.2⟩,λr f=>(h.q r f).op c hC,h.e,h.d⟩
theorem Ut.add{s:Nat}(h:Ut w0 K0 B g0 W w K E n N bs qs)(L:∀ p∈bs,p.1 < s)(Q:Nq w K z a k d x)(f:k=0\/s<=z):Ut w0 K0 B g0 W w K E n N bs ((z,a,k,d,x) :: qs):=⟨h.ta,h.b,List.forall_mem_cons.2 ⟨Q,h.q⟩,λp c=>List.forall_mem_cons.2 ⟨f.imp_right (λq e=>by have:=L p c;have g:z=p.1:=e;omega),h.e p c⟩,h.d⟩
theorem Ut.num(h:Ut w0 K0 B g0 W w K E n N bs qs)(M:Nf w' z a k d x)(hz:k=0\/w.heap.size<=z)(b:BW w w'):Ut w0 K0 B g0 W w' K E n N bs ((z,a,k,d,x) :: qs):=(h.keep b).add h.lt (jW h.ta.sx M hz) hz
theorem Ut.new(h:Ut w0 K0 B g0 W w K E n N bs qs)(X:Blk w' g cs t)(a:w.heap.size<=g)(b:BW w w'):Ut w0 K0 B g0 W w' K E n N ((g,cs,t) :: bs) qs:=by
 have u:=h.keep b;refine⟨u.ta,List.forall_mem_cons.2 ⟨⟨X,λq=>by have:=h.ta.sx.sa.lt q;omega,Nat.le_trans h.ta.size a⟩,u.b⟩,u.q,List.forall_mem_cons.2 ⟨λr f=>ne1 (h.q r f).lt a,u.e⟩,List.pairwise_cons.2 ⟨λp c e=>by have:=h.lt p c;have i:g=p.1:=e;omega,u.d⟩⟩
theorem Ut.bk(h:Ut w0 K0 B g0 W w K E n N bs qs)(i:Nat)(hi:bs[i]?=some (g,cs,t)):Blk w g cs t:=(h.b _ (List.mem_of_getElem? hi)).1
theorem Ut.nq(h:Ut w0 K0 B g0 W w K E n N bs qs)(i:Nat)(hi:qs[i]?=some (z,a,k,d,x)):Nq w K z a k d x:=h.q _ (List.mem_of_getElem? hi)
theorem jL{p q:Bx}:∀ {bs:List Bx} {i:Nat},p∈bs.set i q->p=q\/p∈bs
 | [],_,h=>.inr h
 | b :: bs,0,h=>(List.mem_cons.1 h).imp id (List.mem_cons_of_mem _)
 | b :: bs,i+1,h=>(List.mem_cons.1 h).elim (λe=>.inr (e▸List.mem_cons_self)) (λh=>(jL h).imp id (List.mem_cons_of_mem _))
theorem Cr{q:Bx}:∀ {bs:List Bx} {i:Nat},bs.Pairwise (λa b=>a.1≠b.1)→(hi:bs[i]?=some (g,cs,t))→q.1=g→(bs.set i q).Pairwise (λa b=>a.1≠b.1)∧∀ p ∈ bs.set i q,p≠q→p.1≠g
  | [],_,_,hi,_=>by simp at hi
  | b :: bs, 0, hd, hi, hq => by
    have e:b=(g,cs,t):=by simpa using hi
    have d:=List.pairwise_cons.1 hd;subst e;refine⟨List.pairwise_cons.2 ⟨λp c=>by rw[hq];exact d.1 p c,d.2⟩,λp c hn=>?_⟩;rcases List.mem_cons.1 c with h | h
    · exact absurd h hn
    · exact(d.1 p h).symm
  | b :: bs, i + 1, hd, hi, hq => by
    have d:=List.pairwise_cons.1 hd
    have f:bs[i]?=some (g,cs,t):=by simpa using hi
    obtain⟨r1,j⟩:= Cr d.2 f hq
    have hb:b.1≠g:=d.1 _ (List.mem_of_getElem? f);refine⟨List.pairwise_cons.2 ⟨λp c=>?_,r1⟩,λp c hn=>?_⟩
    · rcases jL c with h | h
      · rw[h,hq];exact hb
      · exact d.1 p h
    · rcases List.mem_cons.1 c with h | h
      · rw[h];exact hb
      · exact j p h hn
theorem Ut.put(h:Ut w0 K0 B g0 W w K E n N bs qs)(i:Nat)(hi:bs[i]?=some (g,cs,t))(C:Chg (·=g) w w')(Y:Blk w' g cs' t)(ht:t≠5):Ut w0 K0 B g0 W w' K E n N (bs.set i (g,cs',t)) qs:=by
 have hm:=List.mem_of_getElem? hi;obtain⟨X,nk,y⟩:=h.b _ hm;obtain⟨r1,f⟩:=Cr (q:=(g,cs',t)) h.d hi rfl;refine⟨Bk.At.cell h.ta X C y nk ht,λp a=>?_,λr c=>(h.q r c).cell C (h.e _ hm r c),λp a=>?_,r1⟩
 ·by_cases e:p=(g,cs',t)
  ·subst e;exact⟨Y,nk,y⟩
  rcases jL a with q | q
  ·exact absurd q e
  exact⟨(h.b p q).1.chg C (f p a e),(h.b p q).2⟩
 rcases jL a with q | q
 ·rw[q]
  show ∀ r∈qs,r.2.2.1=0\/r.1≠g
  exact h.e _ hm
 exact h.e p q
theorem Ut.val{y:Int}(h:Ut w0 K0 B g0 W w K E n N bs qs)(i:Nat)(hi:qs[i]?=some (z,a,k,d,x))(e:x=y):Ut w0 K0 B g0 W w K E n N bs (qs.set i (z,a,k,d,y)):=by
 subst e
 rw[show qs.set i (z,a,k,d,x)=qs from List.ext_getElem? λj=>by
  rw[List.getElem?_set];split
  ·rename_i e;subst e;split
   ·exact hi.symm
   rename_i b;rw[List.getElem?_eq_none (by omega)]
  rfl]
 exact h
theorem Ut.st{R:World->Prop}(h:Ut w0 K0 B g0 W w K E n N bs qs)(i:Nat)(hi:bs[i]?=some (g,cs,t))(r:∀ w1,Ut w0 K0 B g0 W w1 K E n N (bs.set i (g,cs',t)) qs->R w1)(ht:t≠5:=by decide):∀ w1,Blk w1 g cs' t->Chg (·=g) w w1->R w1:=λw1 Y C=>r w1 (h.put i hi C Y ht)
theorem Ut.nw(h:Ut w0 K0 B g0 W w K E n N bs qs)(r:∀ w1 g,Ut w0 K0 B g0 W w1 K E n N ((g,cs,t) :: bs) qs->R w1 g):∀ w1 g,Blk w1 g cs t->w.heap.size<=g->BW w w1->R w1 g:=λw1 g X hx b=>r w1 g (h.new X hx b)
theorem Ut.sel(h:Ut w0 K0 B g0 W w K E n N bs qs)(is v:List Nat)(hn:is.Nodup:=by decide):Ut w0 K0 B g0 W w K E n N (is.filterMap (bs[·]?)) (v.filterMap (qs[·]?)):=by
 have l:∀ p∈is.filterMap (bs[·]?),p∈bs:=λp a=>by
  obtain⟨i,_,e⟩:=List.mem_filterMap.1 a;exact List.mem_of_getElem? e
 have f:∀ p∈v.filterMap (qs[·]?),p∈qs:=λp a=>by
  obtain⟨i,_,e⟩:=List.mem_filterMap.1 a;exact List.mem_of_getElem? e
 refine⟨h.ta,λp a=>h.b p (l p a),λr m=>h.q r (f r m),λp a r m=>h.e p (l p a) r (f r m),?_⟩;have x:=h.d;clear l f h
 induction is with
 | nil=>exact List.Pairwise.nil
 | cons i is ih =>
  have k:=List.nodup_cons.1 hn;rw[List.filterMap_cons];split
  ·exact ih k.2
  rename_i p e;refine List.pairwise_cons.2 ⟨λq hq e2=>?_,ih k.2⟩;obtain⟨j,y,e3⟩:=List.mem_filterMap.1 hq
  have g:i≠j:=λc=>k.1 (c▸y)
  obtain⟨li,s⟩:=List.getElem?_eq_some_iff.1 e;obtain⟨o,t⟩:=List.getElem?_eq_some_iff.1 e3;have u:=List.pairwise_iff_getElem.1 x;rcases Nat.lt_or_gt_of_ne g with c | c
  ·exact u i j li o c (by rw[s,t];exact e2)
  exact u j i o li c (by rw[s,t];exact e2.symm)
end
end
end Fo
end
section
namespace Fo
open Go.RowKit Go.Lib Pg Lim Gl Kv Bk Pw
attribute [local go_sem] Oper.semAt_some
set_option linter.unusedVariables false
set_option linter.unusedSimpArgs false
section
variable {n g B N n0 c0 z0 n1 c1 z1 n2 c2 z2 n3 c3 z3:Nat}{w:World}{K:Nat->Prop}{E:aD}{W:List aD}{rt tk un pe id x0 x1 x2 x3:Int}{jl bo:Bool}{a0 a1 a2 a3 a4 a5 ao:Option Addr}
theorem FC{l:Fr}{P:Program}{fn:Func}(j k:Nat){T T2:TypeId}{d:Nat}{u v:Value}(f:(loadVar T ⟨g,0,none⟩).run P w=.ok u w)(b:(loadVar T2 ⟨d,0,none⟩).run P w=.ok v w)(h:fn.results=#[.cell j T,.cell k T2]:=by kernel_rfl)(hu:lk l j=some (pg g):=by kernel_rfl)(hv:lk l k=some (pg d):=by kernel_rfl)(a:Act)(r:Rd n [] l a):(results fn a.tmps).run P w=.ok (.tuple #[u,v]) w:=by
 have e:=r.gD hu;have c:=r.gD hv;simp at e c;simp[results,h,e,c,asAddr,f,b]
theorem dE(w:World)(K:Nat->Prop):Nq w K 0 none 0 0 0:=⟨.inl rfl,.inl rfl,(jm w 0).to⟩
structure StE(B:Nat)(w:World)(K:Nat->Prop)(g:Nat)(E:aD)(W:List aD)(n N:Nat)(rt tk:Int)(jl:Bool)(un:Int)(bo:Bool)(id x0 x2 x3:Int)(n0 n2 n3:Nat)(e:Ending)(w':World):Prop where
 ex:∃ b0 k0 d0 y0 b2 k2 d2 y2 b3 k3 d3 y3 K' n' N',e=.returned (.agg #[.int .u64 rt,.int .u64 tk,.slice b0 k0 d0,.bool jl,.int .u64 un,.bool bo,.int .u64 1,.slice none 0 0,.slice b2 k2 d2,.slice b3 k3 d3])/\Sx B w' K' g (jz E id 0) W n' N'/\n'<=n+10/\N'<=N+10/\(∀ b,K' b->K b\/w.heap.size<=b)/\Chg K w w'/\Nq w' K' y0 b0 k0 d0 (x0)/\k0<=n0+1/\(k0=0\/w.heap.size<=y0)/\Nq w' K' y2 b2 k2 d2 (x2)/\k2<=n2+1/\(k2=0\/w.heap.size<=y2)/\Nq w' K' y3 b3 k3 d3 (x3)/\k3<=n3+1/\(k3=0\/w.heap.size<=y3)
theorem pC(h:Sx B w K g E W n N)(s:0<=id/\id < 18446744073709551616)(Q0:Nk w K z0 a0 n0 c0 x0)(Z:Nk w K z1 a1 n1 c1 x1)(Q2:Nk w K z2 a2 n2 c2 x2)(C:Nk w K z3 a3 n3 c3 x3)(m0:n0<=100000:=by omega)(m1:n1<=100000:=by omega)(m2:n2<=100000:=by omega)(m3:n3<=100000:=by omega)(hn:n+40<=4000000000000000000:=by omega)(hN:N+40<=100000000:=by omega):CP 95 #[pg g,iU id,.agg #[iU rt,iU tk,.slice a0 n0 c0,.bool jl,iU un,.bool bo,iU pe,.slice a1 n1 c1,.slice a2 n2 c2,.slice a3 n3 c3]] w (StE B w K g E W n N rt tk jl un bo id x0 x2 x3 n0 n2 n3):=by
 have U:=dR h;refine af (n:=16) Tryz.func95 rfl ?_
 refine sr<|ta 5 [.int .u64 rt,.int .u64 tk,.slice a0 n0 c0,.bool jl,.int .u64 un,.bool bo,.int .u64 pe,.slice a1 n1 c1,.slice a2 n2 c2,.slice a3 n3 c3] 57 (pg) (U.nw ?_)
 intro v1 R U;refine ta 6 cl4 57 (pg) (U.nw ?_);intro v3 G U;refine nx<|tlr 7 [.int .u64 rt,.int .u64 tk,.slice a0 n0 c0,.bool jl,.int .u64 un,.bool bo,.int .u64 pe,.slice a1 n1 c1,.slice a2 n2 c2,.slice a3 n3 c3] (U.bk 1 rfl) 0<|tc 8 139 #[.agg #[.int .u64 rt,.int .u64 tk,.slice a0 n0 c0,.bool jl,.int .u64 un,.bool bo,.int .u64 pe,.slice a1 n1 c1,.slice a2 n2 c2,.slice a3 n3 c3]] (nZ (Q0.op U.ta.km U.ta.cc).nat (Z.op U.ta.km U.ta.cc).nat (Q2.op U.ta.km U.ta.cc).nat (C.op U.ta.km U.ta.cc).nat) ?_
 rintro _ v9 ⟨d,f,c,Q,m,o,l,Y,i,j,b,H,a,e,k,zv8,rfl,I,u,F,A,x,y,M2,q,D,V,r,aa,B⟩;have p:=ne3 u U.ta.size;have fv6:=ne3 x U.ta.size;have v:=ne3 q U.ta.size;have t:=ne3 r U.ta.size;have L:=U.lt;have U:=((((U.keep B).add L (jW U.ta.sx I u) u).add L (jW U.ta.sx A x) x).add L (jW U.ta.sx M2 q) q).add L (jW U.ta.sx V r) r;refine⟨_,rfl,tsw (U.bk 1 rfl) [.int .u64 rt,.int .u64 tk,.slice d f c,.bool jl,.int .u64 un,.bool bo,.int .u64 pe,.slice m o l,.slice i j b,.slice a e k] (U.st 1 rfl ?_)⟩;intro v10 U;refine nx<|tz 2<|ts (U.bk 1 rfl) 6 (.int .u64 1) [.int .u64 1] [.int .u64 rt,.int .u64 tk,.slice d f c,.bool jl,.int .u64 un,.bool bo,.int .u64 1,.slice m o l,.slice i j b,.slice a e k] (U.st 1 rfl ?_)
 intro v11 U;refine tz 1<|ts (U.bk 1 rfl) 7 (.agg #[.slice none 0 0]) [.slice none 0 0] [.int .u64 rt,.int .u64 tk,.slice d f c,.bool jl,.int .u64 un,.bool bo,.int .u64 1,.slice none 0 0,.slice i j b,.slice a e k] (U.st 1 rfl ?_)
 intro P U;refine nx<|tz 2<|tc 14 140 #[pg g,.int .u64 id,.int .u64 0] (oV U.ta.sx s) ?_
 rintro _ J ⟨rfl,M,S,X,O⟩;have U:=U.op S X O;refine⟨_,rfl,nt<|aA [(5,pg R),(6,pg G)]<|sr<|tlr 15 [.int .u64 rt,.int .u64 tk,.slice d f c,.bool jl,.int .u64 un,.bool bo,.int .u64 1,.slice none 0 0,.slice i j b,.slice a e k] (U.bk 1 rfl) 0<|tsw (U.bk 0 rfl) [.int .u64 rt,.int .u64 tk,.slice d f c,.bool jl,.int .u64 un,.bool bo,.int .u64 1,.slice none 0 0,.slice i j b,.slice a e k] (U.st 0 rfl ?_)⟩;intro z U;refine nr<|ah (.agg #[.int .u64 rt,.int .u64 tk,.slice d f c,.bool jl,.int .u64 un,.bool bo,.int .u64 1,.slice none 0 0,.slice i j b,.slice a e k]) (rsc (T:=57) 6 (lr (U.bk 0 rfl) 0)) ?_
 exact⟨_,_,_,_,_,_,_,_,_,_,_,_,_,_,_,rfl,U.ta.sx,by omega,by omega,U.ta.km,U.ta.cc,(U.nq 3 rfl),by omega,p,(U.nq 1 rfl),by omega,v,(U.nq 0 rfl),by omega,t⟩
structure HoE(B:Nat)(w:World)(K:Nat->Prop)(g:Nat)(E:aD)(W:List aD)(n N:Nat)(tk pe id x0 x4:Int)(n0 n4:Nat)(e:Ending)(w':World):Prop where
 ex:∃ b0 k0 d0 y0 b1 k1 d1 y1 K' n' N',e=.returned (.agg #[.slice b0 k0 d0,.int .u64 ((pe - 1) % 18446744073709551616),.slice b1 k1 d1])/\Sx B w' K' g (jz E id ((pe - 1) % 18446744073709551616)) W n' N'/\n'<=n+10/\N'<=N+10/\(∀ b,K' b->K b\/w.heap.size<=b)/\Chg K w w'/\Nq w' K' y0 b0 k0 d0 (x4)/\k0<=n4+1/\(k0=0\/w.heap.size<=y0)/\Nq w' K' y1 b1 k1 d1 (x4 * (tk * U36) / x0)/\k1<=n0+n4+40/\(k1=0\/w.heap.size<=y1)
theorem zo{u:Int}{d i C:Nat}{x4:Int}{l s G:Nat}{x5:Int}(h:Sx B w K g E W n N)(p:0<=id/\id < 18446744073709551616)(q:0<=tk/\tk < 18446744073709551616)(L:Nk w K z0 a0 n0 c0 x0)(m0:n0<=100000)(Q1:Nk w K z1 a1 n1 c1 x1)(m1:n1<=100000)(Q2:Nk w K z2 a2 n2 c2 x2)(X:n2<=100000)(P:Nk w K z3 a3 n3 c3 x3)(O:n3<=100000)(t:Nk w K C a4 d i x4)(R:d<=100000)(Y:Nk w K G a5 l s x5)(Q:l<=100000)(hn:n+40<=4000000000000000000)(hN:N+40<=100000000):CP 236 #[pg g,iU id,.agg #[iU rt,iU tk,.slice a0 n0 c0,.bool jl,iU un,.bool bo,iU pe,.slice a1 n1 c1,.slice a2 n2 c2,.slice a3 n3 c3],.agg #[.slice a4 d i,iU u,.slice a5 l s]] w (HoE B w K g E W n N tk pe id x0 x4 n0 d):=by
 have U:=dR h;refine af (n:=29) Tryz.func236 rfl ?_
 refine sr<|ta 6 [iU rt,iU tk,.slice a0 n0 c0,.bool jl,iU un,.bool bo,iU pe,.slice a1 n1 c1,.slice a2 n2 c2,.slice a3 n3 c3] 57 (pg) (U.nw ?_)
 intro v1 r U;refine ta 7 [.slice a4 d i,iU u,.slice a5 l s] 181 (pg) (U.nw ?_);intro Z o U;refine ta 8 [zS,iU 0,zS] 181 (pg) (U.nw ?_);intro v5 x U;refine nx<|tz 1<|tl 11 (iU pe) (U.bk 2 rfl) 6<|tq 12 (iU (IntKind.u64.wrap (pe - 1))) (iU ((pe - 1) % 18446744073709551616)) (congrArg (Value.int .u64) (IntKind.wrap_u64 _))<|tz 1<|nx<|tz 3<|tc 16 140 #[pg g,iU id,iU ((pe - 1) % 18446744073709551616)] (oV U.ta.sx p) ?_
 rintro _ V ⟨rfl,K7,S,H,D⟩;have U:=U.op S H D;refine⟨_,rfl,nt<|aA [(6,pg r),(7,pg o),(8,pg x),(9,iU ((pe - 1) % 18446744073709551616))]<|ag ?_⟩;have U:=U.drew;refine gd2 (U.bk 1 rfl) (U.bk 2 rfl) ?_
 refine z 0 17 (pg o)<|zlr 1 18 [.slice a4 d i] (λ_ h=>h.1) 0<|z 3 20 (iU ((pe - 1) % 18446744073709551616))<|z 4 21 (pq r 1)<|zl 5 22 (iU tk) (λ_ h=>h.2) 1<|z 6 23 (pq r 2)<|zlr 7 24 [.slice a0 n0 c0] (λ_ h=>h.2) 2<|z 8 25 (pg o)<|zlr 9 26 [.slice a4 d i] (λ_ h=>h.1) 0<|zc 2 19 178 #[.agg #[.slice a4 d i]] (kC (t.op U.ta.km U.ta.cc).nat) ?_
 rintro _ v10 ⟨j,f,e,I,rfl,M,h,J,B⟩;have m:=ne3 h U.ta.size;have U:=U.num M h B;refine⟨_,rfl,⟨(U.bk 1 rfl),(U.bk 2 rfl)⟩,zc 10 27 290 #[iU tk,.agg #[.slice a0 n0 c0],.agg #[.slice a4 d i]] (yx (L.op U.ta.km U.ta.cc).nat (by omega) (t.op U.ta.km U.ta.cc).nat (by omega) q) ?_⟩;rintro _ F ⟨a,b,c,y,rfl,M,h,v,B⟩;have k:=ne3 h U.ta.size;have U:=U.num M h B;refine⟨_,rfl,⟨(U.bk 1 rfl),(U.bk 2 rfl)⟩,zr 11 28 (.agg #[.slice j f e,iU ((pe - 1) % 18446744073709551616),.slice a b c]) (by intro _ _;kernel_rfl)<|zsw 12 (U.bk 0 rfl) [.slice j f e,iU ((pe - 1) % 18446744073709551616),.slice a b c] (U.st 0 rfl ?_)⟩;intro A U;refine⟨⟨(U.bk 1 rfl),(U.bk 2 rfl)⟩,aS<|aj<|aA [(8,pg x)]<|bB<|ah (.agg #[.slice j f e,iU ((pe - 1) % 18446744073709551616),.slice a b c]) (rsc (T:=181) 8 (lr (U.bk 0 rfl) 0)) ?_⟩;exact⟨_,_,_,_,_,_,_,_,_,_,_,rfl,U.ta.sx,by omega,by omega,U.ta.km,U.ta.cc,(U.nq 1 rfl),by omega,m,(U.nq 0 rfl),by omega,k⟩
def um(E:aD)(id pe tk cur:Int):aD:=letE (xt E id pe (hX (got E (Ky.mk 7 id ((pe - 1) % 18446744073709551616))) 0+cur / tk) 1) id ((pe - 1) % 18446744073709551616)
structure ClE(B:Nat)(w:World)(K:Nat->Prop)(g:Nat)(E:aD)(W:List aD)(n N:Nat)(rt tk:Int)(jl:Bool)(un:Int)(bo:Bool)(pe id x0 x1 x2 x3:Int)(n0 n1 n2 n3:Nat)(e:Ending)(w':World):Prop where
 ex:∃ b0 k0 d0 y0 b1 k1 d1 y1 b2 k2 d2 y2 b3 k3 d3 y3 K' n' N',e=.returned (.tuple #[.agg #[.int .u64 rt,.int .u64 tk,.slice b0 k0 d0,.bool jl,.int .u64 un,.bool bo,.int .u64 ((pe+1) % 18446744073709551616),.slice none 0 0,.slice b2 k2 d2,.slice b3 k3 d3],.agg #[.slice b1 k1 d1]])/\Sx B w' K' g (um E id pe tk x1) W n' N'/\n'<=n+20/\N'<=N+20/\(∀ b,K' b->K b\/w.heap.size<=b)/\Chg K w w'/\Nq w' K' y0 b0 k0 d0 (x0)/\k0<=n0+1/\(k0=0\/w.heap.size<=y0)/\Nq w' K' y1 b1 k1 d1 ((if tk=0 then x1 else 0))/\k1<=n1+1/\(k1=0\/w.heap.size<=y1)/\Nq w' K' y2 b2 k2 d2 ((if tk=0 then sL x2 x1 else x2))/\k2<=n2+1/\(k2=0\/w.heap.size<=y2)/\Nq w' K' y3 b3 k3 d3 (x3)/\k3<=n3+1/\(k3=0\/w.heap.size<=y3)
theorem Nq.eqv{z c:Nat}{x y:Int}(h:Nq w K z ao n c x)(e:x=y):Nq w K z ao n c y:=e▸h
theorem gE(h:Sx B w K g E W n N)(D:0<=id/\id < 18446744073709551616)(htk:0<=tk/\tk < 18446744073709551616)(Q0:Nk w K z0 a0 n0 c0 x0)(Q1:Nk w K z1 a1 n1 c1 x1)(Q2:Nk w K z2 a2 n2 c2 x2)(Q3:Nk w K z3 a3 n3 c3 x3)(m0:n0<=100000:=by omega)(m1:n1<=100000:=by omega)(m2:n2<=100000:=by omega)(m3:n3<=100000:=by omega)(hn:n+60<=4000000000000000000:=by omega)(hN:N+60<=100000000:=by omega):CP 232 #[pg g,iU id,.agg #[iU rt,iU tk,.slice a0 n0 c0,.bool jl,iU un,.bool bo,iU pe,.slice a1 n1 c1,.slice a2 n2 c2,.slice a3 n3 c3]] w (ClE B w K g E W n N rt tk jl un bo pe id x0 x1 x2 x3 n0 n1 n2 n3):=by
 have U:=dR h;refine af (n:=60) Tryz.func232 rfl ?_
 refine sr<|ta 5 [iU rt,iU tk,.slice a0 n0 c0,.bool jl,iU un,.bool bo,iU pe,.slice a1 n1 c1,.slice a2 n2 c2,.slice a3 n3 c3] 57 (pg) (U.nw ?_)
 intro v1 O U;refine ta 6 cl4 57 (pg) (U.nw ?_);intro v3 Y U;refine ta 7 [zS] 55 (pg) (U.nw ?_);intro v5 X U;refine nx<|tlr 12 [iU rt,iU tk,.slice a0 n0 c0,.bool jl,iU un,.bool bo,iU pe,.slice a1 n1 c1,.slice a2 n2 c2,.slice a3 n3 c3] (U.bk 2 rfl) 0<|tc 13 139 #[.agg #[iU rt,iU tk,.slice a0 n0 c0,.bool jl,iU un,.bool bo,iU pe,.slice a1 n1 c1,.slice a2 n2 c2,.slice a3 n3 c3]] (nZ (Q0.op U.ta.km U.ta.cc).nat (Q1.op U.ta.km U.ta.cc).nat (Q2.op U.ta.km U.ta.cc).nat (Q3.op U.ta.km U.ta.cc).nat) ?_
 rintro _ v11 ⟨l,o,m,zv7,d,e,f,zv8,q,p,r,zv9,a,c,b,zv10,rfl,M0,h0,mv7,M1,h1,mv8,M2,h2,mv9,M3,Z,mv10,B⟩;have H:=ne3 h0 U.ta.size;have aa:=ne3 h1 U.ta.size;have fv9:=ne3 h2 U.ta.size;have x:=ne3 Z U.ta.size;have L:=U.lt;have U:=((((U.keep B).add L (jW U.ta.sx M0 h0) h0).add L (jW U.ta.sx M1 h1) h1).add L (jW U.ta.sx M2 h2) h2).add L (jW U.ta.sx M3 Z) Z;refine⟨_,rfl,tsw (U.bk 2 rfl) [iU rt,iU tk,.slice l o m,.bool jl,iU un,.bool bo,iU pe,.slice d e f,.slice q p r,.slice a c b] (U.st 2 rfl ?_)⟩;intro v12 U;refine nx<|tz 1<|tl 15 (iU pe) (U.bk 2 rfl) 6<|tq 16 (iU (IntKind.u64.wrap (pe - 1))) (iU ((pe - 1) % 18446744073709551616)) (congrArg (Value.int .u64) (IntKind.wrap_u64 _))<|tz 1<|nt<|aA [(0,pg g),(1,iU id),(5,pg O),(6,pg Y),(7,pg X),(8,iU ((pe - 1) % 18446744073709551616))]<|sr<|tz 1<|tlr 19 [.slice d e f] (U.bk 2 rfl) 7<|tz 1<|tl 21 (iU tk) (U.bk 2 rfl) 1<|tc 22 283 #[.agg #[.slice d e f],iU tk] (eOver (U.nq 2 rfl).nat (by omega) htk) ?_
 rintro _ v14 ⟨u,v,t,zq13,rfl,M,h,mq13,B⟩;have fq13:=ne3 h U.ta.size;have U:=U.num M h B;refine⟨_,rfl,tz 3<|ta 9 [zS] 55 (pg) (U.nw ?_)⟩;intro v15 g16 U;refine tsw (U.bk 0 rfl) [.slice u v t] (U.st 0 rfl ?_);intro v17 U;refine tz 1<|nt<|ag ?_
 have U:=U.drew;refine gd2 (U.bk 3 rfl) (U.bk 0 rfl) ?_
 refine z 0 25 (pg g)<|z 1 26 (iU id)<|z 2 27 (pq O 6)<|zl 3 28 (iU pe) (λ_ h=>h.1) 6<|z 4 29 (pg g)<|z 5 30 (iU id)<|z 6 31 (iU ((pe - 1) % 18446744073709551616))<|zlr 8 33 [.slice u v t] (λ_ h=>h.2) 0<|zc 7 32 284 #[pg g,iU id,iU ((pe - 1) % 18446744073709551616)] (xK U.ta.sx D (by omega) (by omega)) ?_
 rintro _ v20 ⟨I,F,R,rfl,zr18,K19,S,P,J,Q,mr18,h⟩;have L:=U.lt;have U:=(U.op S P J).add L Q h;refine⟨_,rfl,⟨(U.bk 3 rfl),(U.bk 0 rfl)⟩,zc 9 34 185 #[.agg #[.slice I F R],.agg #[.slice u v t]] (uM (U.nq 0 rfl).nat (U.nq 1 rfl).nat) ?_⟩;rintro _ v22 ⟨A,C,y,zq21,rfl,M,h,mq21,B⟩;have fq21:=ne3 h U.ta.size;have U:=U.num M h B;refine⟨_,rfl,⟨(U.bk 3 rfl),(U.bk 0 rfl)⟩,zr 10 35 (.agg #[.slice A C y,iU 1]) (by intro _ _;kernel_rfl)<|zc 11 36 180 #[pg g,iU id,iU pe,.agg #[.slice A C y,iU 1]] (gS U.ta.sx D (U.nq 0 rfl).nk (by omega) (by omega) (by omega)) ?_⟩;rintro _ v24 ⟨rfl,K23,S,P,J⟩;have U:=U.op S P J;refine⟨_,rfl,⟨(U.bk 3 rfl),(U.bk 0 rfl)⟩,aS<|aj<|aA [(0,pg g),(1,iU id),(5,pg O),(6,pg Y),(7,pg X),(8,iU ((pe - 1) % 18446744073709551616))]<|sr<|tz 3<|tc 40 285 #[pg g,iU id,iU ((pe - 1) % 18446744073709551616)] (FP U.ta.sx D (by omega) (by omega)) ?_⟩;rintro _ v29 ⟨rfl,K25,n26,N27,S,qn26,qN27,P,J⟩;have U:=U.op S P J;refine⟨_,rfl,nx<|ta 11 [zS] 55 (pg) (U.nw ?_)⟩;intro v30 V U;refine nt<|ag<|sr<|tz 1<|tl 42 (iU tk) (U.bk 4 rfl) 1 ?_
 by_cases s:(tk:Int)=0
 ·refine tq 43 (.bool ((tk:Int) == 0)) (bT) (congrArg Value.bool (beq_iff_eq.2 s))<|nt<|aL<|sr<|tz 1<|tlr 45 [.slice d e f] (U.bk 4 rfl) 7<|tsw (U.bk 0 rfl) [.slice d e f] (U.st 0 rfl ?_)
  intro v33 U;refine nt<|aN<|tz 1<|tlr 47 [.slice q p r] (U.bk 4 rfl) 8<|tz 1<|tlr 49 [.slice d e f] (U.bk 4 rfl) 7<|tc 50 286 #[.agg #[.slice q p r],.agg #[.slice d e f]] (CY (U.nq 4 rfl).nat (by omega) (U.nq 5 rfl).nat (by omega)) ?_
  rintro _ v35 ⟨j,k,i,zq34,rfl,M,h,mq34,B⟩;have G:=ne3 h U.ta.size;have U:=U.num M h B;refine⟨_,rfl,tz 1<|ts (U.bk 4 rfl) 8 (.agg #[.slice j k i]) [.slice j k i] [iU rt,iU tk,.slice l o m,.bool jl,iU un,.bool bo,iU pe,.slice d e f,.slice j k i,.slice a c b] (U.st 4 rfl ?_)⟩;intro v36 U;refine nt<|aA [(5,pg O),(6,pg Y),(7,pg X),(11,pg V)]<|sr<|tz 1<|tl 53 (iU pe) (U.bk 4 rfl) 6<|tq 54 (iU (IntKind.u64.wrap (pe+1))) (iU ((pe+1) % 18446744073709551616)) (congrArg (Value.int .u64) (IntKind.wrap_u64 _))<|tz 1<|ts (U.bk 4 rfl) 6 (iU ((pe+1) % 18446744073709551616)) [iU ((pe+1) % 18446744073709551616)] [iU rt,iU tk,.slice l o m,.bool jl,iU un,.bool bo,iU ((pe+1) % 18446744073709551616),.slice d e f,.slice j k i,.slice a c b] (U.st 4 rfl ?_)
  intro v37 U;refine nx<|tz 2<|ts (U.bk 4 rfl) 7 (.agg #[zS]) [zS] [iU rt,iU tk,.slice l o m,.bool jl,iU un,.bool bo,iU ((pe+1) % 18446744073709551616),zS,.slice j k i,.slice a c b] (U.st 4 rfl ?_)
  intro v38 U;refine nt<|ag ?_
  have U:=U.drew;refine gd2 (U.bk 4 rfl) (U.bk 0 rfl) ?_
  refine zlr 0 58 [iU rt,iU tk,.slice l o m,.bool jl,iU un,.bool bo,iU ((pe+1) % 18446744073709551616),zS,.slice j k i,.slice a c b] (λ_ h=>h.1) 0<|zlr 1 59 [.slice d e f] (λ_ h=>h.2) 0<|zsw 2 (U.bk 3 rfl) [iU rt,iU tk,.slice l o m,.bool jl,iU un,.bool bo,iU ((pe+1) % 18446744073709551616),zS,.slice j k i,.slice a c b] (U.st 3 rfl ?_)
  intro v39 U;refine⟨⟨(U.bk 4 rfl),(U.bk 0 rfl)⟩,zsw 3 (U.bk 2 rfl) [.slice d e f] (U.st 2 rfl ?_)⟩;intro v40 U;refine⟨⟨(U.bk 4 rfl),(U.bk 0 rfl)⟩,aS<|aj<|bB<|ah (.tuple #[.agg #[iU rt,iU tk,.slice l o m,.bool jl,iU un,.bool bo,iU ((pe+1) % 18446744073709551616),zS,.slice j k i,.slice a c b],.agg #[.slice d e f]]) (FC (T:=57) (T2:=55) 6 7 (lr (U.bk 3 rfl) 0) (lr (U.bk 2 rfl) 0)) ?_⟩;exact⟨_,_,_,_,_,_,_,_,_,_,_,_,_,_,_,_,_,_,_,rfl,U.ta.sx,by omega,by omega,U.ta.km,U.ta.cc,(U.nq 7 rfl),by omega,H,(U.nq 6 rfl).eqv (if_pos s).symm,by omega,aa,(U.nq 0 rfl).eqv (if_pos s).symm,by omega,G,(U.nq 4 rfl),by omega,x⟩
 refine tq 43 (.bool ((tk:Int) == 0)) (bF) (congrArg Value.bool (beq_eq_false_iff_ne.2 s))<|nt<|nk<|sr<|tz 1<|tl 53 (iU pe) (U.bk 4 rfl) 6<|tq 54 (iU (IntKind.u64.wrap (pe + 1))) (iU ((pe + 1) % 18446744073709551616)) (congrArg (Value.int .u64) (IntKind.wrap_u64 _))<|tz 1<|ts (U.bk 4 rfl) 6 (iU ((pe + 1) % 18446744073709551616)) [iU ((pe + 1) % 18446744073709551616)] [iU rt,iU tk,.slice l o m,.bool jl,iU un,.bool bo,iU ((pe + 1) % 18446744073709551616),.slice d e f,.slice q p r,.slice a c b] (U.st 4 rfl ?_)
 intro v41 U;refine nt<|aA [(5,pg O),(6,pg Y),(7,pg X),(11,pg V)]<|sr<|tz 2<|ts (U.bk 4 rfl) 7 (.agg #[zS]) [zS] [iU rt,iU tk,.slice l o m,.bool jl,iU un,.bool bo,iU ((pe+1) % 18446744073709551616),zS,.slice q p r,.slice a c b] (U.st 4 rfl ?_)
 intro v42 U;refine nt<|ag ?_
 have U:=U.drew;refine gd2 (U.bk 4 rfl) (U.bk 0 rfl) ?_
 refine zlr 0 58 [iU rt,iU tk,.slice l o m,.bool jl,iU un,.bool bo,iU ((pe+1) % 18446744073709551616),zS,.slice q p r,.slice a c b] (λ_ h=>h.1) 0<|zlr 1 59 [zS] (λ_ h=>h.2) 0<|zsw 2 (U.bk 3 rfl) [iU rt,iU tk,.slice l o m,.bool jl,iU un,.bool bo,iU ((pe+1) % 18446744073709551616),zS,.slice q p r,.slice a c b] (U.st 3 rfl ?_)
 intro v43 U;refine⟨⟨(U.bk 4 rfl),(U.bk 0 rfl)⟩,zsw 3 (U.bk 2 rfl) [zS] (U.st 2 rfl ?_)⟩;intro v44 U;refine⟨⟨(U.bk 4 rfl),(U.bk 0 rfl)⟩,aS<|aj<|bB<|ah (.tuple #[.agg #[iU rt,iU tk,.slice l o m,.bool jl,iU un,.bool bo,iU ((pe+1) % 18446744073709551616),zS,.slice q p r,.slice a c b],.agg #[zS]]) (FC (T:=57) (T2:=55) 6 7 (lr (U.bk 3 rfl) 0) (lr (U.bk 2 rfl) 0)) ?_⟩;exact⟨_,_,_,_,none,0,0,0,_,_,_,_,_,_,_,_,_,_,_,rfl,U.ta.sx,by omega,by omega,U.ta.km,U.ta.cc,(U.nq 6 rfl),by omega,H,(dE _ _).eqv (if_neg s).symm,by omega,.inl rfl,(U.nq 4 rfl).eqv (if_neg s).symm,by omega,fv9,(U.nq 3 rfl),by omega,x⟩
end
end Fo
end
section
namespace Fo
open Go.RowKit Go.Lib Pg Lim Gl
attribute [local go_sem] Oper.semAt_some
set_option linter.unusedVariables false
set_option linter.unusedSimpArgs false
end Fo
end
end Go.Proofs.YtpoifdokmjhclaaGreat
