import Derived.Test.YtgdohcdlkonhiaaGreatDoorJaw
set_option maxRecDepth 100000
set_option maxHeartbeats 8000000
namespace Go.Proofs.YtgdohcdlkonhiaaGreatDoor
section
namespace Fo
open Go.RowKit Go.Lib Pg Lim Gl Kv Bk Pw
set_option linter.unusedVariables false
theorem Cx {w:World} {K K':Nat->Prop} {x:Nat} {cs:List Value} {t:TypeId} (X:Blk w x cs t) (h:¬ K x) (hK:∀ b,K' b->K b\/w.heap.size<=b):¬ K' x:=fun q=>(hK x q).elim h (fun q=>by have:=X.lt;omega)
abbrev Bx:=Nat × List Value × TypeId
abbrev Nx:=Nat × Option Addr × Nat × Nat × Int
structure Ut (w0:World) (K0:Nat->Prop) (B g0:Nat) (W:List aC) (w:World) (K:Nat->Prop) (E:aC) (n N:Nat) (bs:List Bx) (qs:List Nx):Prop where
 ta:Bk.At B w0 K0 w K g0 E W n N
 b:∀ p∈bs,Blk w p.1 p.2.1 p.2.2/\¬ K p.1/\w0.heap.size<=p.1
 q:∀ r∈qs,Nq w K r.1 r.2.1 r.2.2.1 r.2.2.2.1 r.2.2.2.2
 e:∀ p∈bs,∀ r∈qs,r.2.2.1=0\/r.1≠p.1
 d:bs.Pairwise (fun a b=>a.1≠b.1)
section
variable {w0 w w':World} {B g0 n N n' N' g i:Nat} {K0 K K':Nat->Prop} {W:List aC} {E E':aC} {bs:List Bx} {qs:List Nx} {cs cs':List Value} {t:TypeId}
section
variable {z k d:Nat}{a:Option Addr}{x:Int}
theorem Ut.lt(h:Ut w0 K0 B g0 W w K E n N bs qs):∀ p∈bs,p.1 < w.heap.size:=fun p hp=>(h.b p hp).1.lt
theorem dw(h:Sx B w K g0 E W n N):Ut w K B g0 W w K E n N [] []:=⟨h.at,fun _ h=>(List.not_mem_nil h).elim,fun _ h=>(List.not_mem_nil h).elim,fun _ h=>(List.not_mem_nil h).elim,List.Pairwise.nil⟩
theorem Ut.keep(h:Ut w0 K0 B g0 W w K E n N bs qs)(b:Below w.heap.size w w'):Ut w0 K0 B g0 W w' K E n N bs qs:=⟨h.ta.keep b,fun p a=>⟨(h.b p a).1.keep b,(h.b p a).2⟩,fun r c=>(h.q r c).keep b,h.e,h.d⟩
theorem Ut.drew(h:Ut w0 K0 B g0 W w K E n N bs qs):Ut w0 K0 B g0 W w.drew K E n N bs qs:=h.keep (Below.refl _ _).drew
theorem Ut.op(h:Ut w0 K0 B g0 W w K E n N bs qs)(S:Sx B w' K' g0 E' W n' N')(f:∀ b,K' b->K b\/w.heap.size<=b)(c:Chg K w w'):Ut w0 K0 B g0 W w' K' E' n' N' bs qs:=⟨h.ta.op S f c,fun p a=>⟨(h.b p a).1.chg c (h.b p a).2.1,Cx (h.b p a).1 (h.b p a).2.1 f,(h.b p a).2.2⟩,fun r g=>(h.q r g).op f c,h.e,h.d⟩
theorem Ut.add{s:Nat}(h:Ut w0 K0 B g0 W w K E n N bs qs)(L:∀ p∈bs,p.1 < s)(Q:Nq w K z a k d x)(f:k=0\/s<=z):Ut w0 K0 B g0 W w K E n N bs ((z,a,k,d,x) :: qs):=⟨h.ta,h.b,List.forall_mem_cons.2 ⟨Q,h.q⟩,fun p c=>List.forall_mem_cons.2 ⟨f.imp_right (fun q e=>by have:=L p c;have g:z=p.1:=e;omega),h.e p c⟩,h.d⟩
theorem Ut.num(h:Ut w0 K0 B g0 W w K E n N bs qs)(M:Nf w' z a k d x)(c:k=0\/w.heap.size<=z)(b:Below w.heap.size w w'):Ut w0 K0 B g0 W w' K E n N bs ((z,a,k,d,x) :: qs):=(h.keep b).add h.lt (aU h.ta.sx M c) c
theorem Ut.new(h:Ut w0 K0 B g0 W w K E n N bs qs)(X:Blk w' g cs t)(a:w.heap.size<=g)(b:Below w.heap.size w w'):Ut w0 K0 B g0 W w' K E n N ((g,cs,t) :: bs) qs:=by
 have u:=h.keep b;refine⟨u.ta,List.forall_mem_cons.2 ⟨⟨X,fun q=>by have:=h.ta.sx.sa.lt q;omega,Nat.le_trans h.ta.size a⟩,u.b⟩,u.q,List.forall_mem_cons.2 ⟨fun r f=>ne1 (h.q r f).lt a,u.e⟩,List.pairwise_cons.2 ⟨fun p c e=>by have:=h.lt p c;have i:g=p.1:=e;omega,u.d⟩⟩
theorem Ut.bk(h:Ut w0 K0 B g0 W w K E n N bs qs)(i:Nat)(hi:bs[i]?=some (g,cs,t)):Blk w g cs t:=(h.b _ (List.mem_of_getElem? hi)).1
theorem Ut.nq(h:Ut w0 K0 B g0 W w K E n N bs qs)(i:Nat)(hi:qs[i]?=some (z,a,k,d,x)):Nq w K z a k d x:=h.q _ (List.mem_of_getElem? hi)
theorem ij{p q:Bx}:∀ {bs:List Bx} {i:Nat},p∈bs.set i q->p=q\/p∈bs
 | [],_,h=>.inr h
 | b :: bs,0,h=>(List.mem_cons.1 h).imp id (List.mem_cons_of_mem _)
 | b :: bs,i+1,h=>(List.mem_cons.1 h).elim (fun e=>.inr (e▸List.mem_cons_self)) (fun h=>(ij h).imp id (List.mem_cons_of_mem _))
theorem Al{q:Bx}:∀ {bs:List Bx} {i:Nat},bs.Pairwise (fun a b=>a.1≠b.1)→(hi:bs[i]?=some (g,cs,t))→q.1=g→(bs.set i q).Pairwise (fun a b=>a.1≠b.1)∧∀ p ∈ bs.set i q,p≠q→p.1≠g
  | [],_,_,hi,_=>by simp at hi
  | b :: bs, 0, hd, hi, hq => by
    have e:b=(g,cs,t):=by simpa using hi
    have d:=List.pairwise_cons.1 hd;subst e;refine⟨List.pairwise_cons.2 ⟨fun p c=>by rw[hq];exact d.1 p c,d.2⟩,fun p c hn=>?_⟩;rcases List.mem_cons.1 c with h | h
    · exact absurd h hn
    · exact(d.1 p h).symm
  | b :: bs, i + 1, hd, hi, hq => by
    have d:=List.pairwise_cons.1 hd
    have f:bs[i]?=some (g,cs,t):=by simpa using hi
    obtain⟨r1,j⟩:= Al d.2 f hq
    have hb:b.1≠g:=d.1 _ (List.mem_of_getElem? f);refine⟨List.pairwise_cons.2 ⟨fun p c=>?_,r1⟩,fun p c hn=>?_⟩
    · rcases ij c with h | h
      · rw[h,hq];exact hb
      · exact d.1 p h
    · rcases List.mem_cons.1 c with h | h
      · rw[h];exact hb
      · exact j p h hn
theorem Ut.put(h:Ut w0 K0 B g0 W w K E n N bs qs)(i:Nat)(hi:bs[i]?=some (g,cs,t))(C:Chg (·=g) w w')(Y:Blk w' g cs' t)(ht:t≠5):Ut w0 K0 B g0 W w' K E n N (bs.set i (g,cs',t)) qs:=by
 have hm:=List.mem_of_getElem? hi;obtain⟨X,nk,y⟩:=h.b _ hm;obtain⟨r1,f⟩:=Al (q:=(g,cs',t)) h.d hi rfl;refine⟨Bk.At.cell h.ta X C y nk ht,fun p a=>?_,fun r c=>(h.q r c).cell C (h.e _ hm r c),fun p a=>?_,r1⟩
 ·by_cases e:p=(g,cs',t)
  ·subst e;exact⟨Y,nk,y⟩
  ·rcases ij a with q | q
   ·exact absurd q e
   ·exact⟨(h.b p q).1.chg C (f p a e),(h.b p q).2⟩
 ·rcases ij a with q | q
  ·rw[q]
   show ∀ r∈qs,r.2.2.1=0\/r.1≠g
   exact h.e _ hm
  ·exact h.e p q
theorem Ut.val{y:Int}(h:Ut w0 K0 B g0 W w K E n N bs qs)(i:Nat)(hi:qs[i]?=some (z,a,k,d,x))(e:x=y):Ut w0 K0 B g0 W w K E n N bs (qs.set i (z,a,k,d,y)):=by
 subst e
 rw[show qs.set i (z,a,k,d,x)=qs from List.ext_getElem? fun j=>by
  rw[List.getElem?_set];split
  ·rename_i e;subst e;split
   ·exact hi.symm
   ·rename_i b;rw[List.getElem?_eq_none (by omega)]
  ·rfl]
 exact h
theorem Ut.sel(h:Ut w0 K0 B g0 W w K E n N bs qs)(is u:List Nat)(hn:is.Nodup:=by decide):Ut w0 K0 B g0 W w K E n N (is.filterMap (bs[·]?)) (u.filterMap (qs[·]?)):=by
 have k:∀ p∈is.filterMap (bs[·]?),p∈bs:=fun p a=>by
  obtain⟨i,_,e⟩:=List.mem_filterMap.1 a;exact List.mem_of_getElem? e
 have f:∀ p∈u.filterMap (qs[·]?),p∈qs:=fun p a=>by
  obtain⟨i,_,e⟩:=List.mem_filterMap.1 a;exact List.mem_of_getElem? e
 refine⟨h.ta,fun p a=>h.b p (k p a),fun r l=>h.q r (f r l),fun p a r l=>h.e p (k p a) r (f r l),?_⟩;have v:=h.d;clear k f h
 induction is with
 | nil=>exact List.Pairwise.nil
 | cons i is ih =>
  have nd:=List.nodup_cons.1 hn;rw[List.filterMap_cons];split
  ·exact ih nd.2
  ·rename_i p e;refine List.pairwise_cons.2 ⟨fun q hq e2=>?_,ih nd.2⟩;obtain⟨j,x,e3⟩:=List.mem_filterMap.1 hq
   have g:i≠j:=fun c=>nd.1 (c▸x)
   obtain⟨li,o⟩:=List.getElem?_eq_some_iff.1 e;obtain⟨m,s⟩:=List.getElem?_eq_some_iff.1 e3;have t:=List.pairwise_iff_getElem.1 v;rcases Nat.lt_or_gt_of_ne g with c | c
   ·exact t i j li m c (by rw[o,s];exact e2)
   ·exact t j i m li c (by rw[o,s];exact e2.symm)
end
end
end Fo
end
section
namespace Fo
open Go.RowKit Go.Lib Pg Lim Gl Kv Bk Pw
attribute [local go_sem] Oper.semAt_some
set_option linter.unusedVariables false
set_option linter.unusedSimpArgs false
section
variable {n g B N n0 c0 z0 n1 c1 z1 n2 c2 z2 n3 c3 z3:Nat}{w:World}{K:Nat->Prop}{E:aC}{W:List aC}{rt tk un pe id x0 x1 x2 x3:Int}{jl bo:Bool}{a0 a1 a2 a3 a4 a5 ao:Option Addr}
theorem rscc{l:Fr}{P:Program}{fn:Func}(j k:Nat){T T2:TypeId}{g2:Nat}{u v:Value}(e:(loadVar T ⟨g,0,none⟩).run P w=.ok u w)(b:(loadVar T2 ⟨g2,0,none⟩).run P w=.ok v w)(h:fn.results=#[.cell j T,.cell k T2]:=by kernel_rfl)(hu:lk l j=some (.pointer (some ⟨g,0,none⟩)):=by kernel_rfl)(hv:lk l k=some (.pointer (some ⟨g2,0,none⟩)):=by kernel_rfl)(a:Act)(r:Rd n [] l a):(results fn a.tmps).run P w=.ok (.tuple #[u,v]) w:=by
 have d:=r.gD hu;have c:=r.gD hv;simp at d c;simp[results,h,d,c,asAddr,e,b]
theorem ee(w:World)(K:Nat->Prop):Nq w K 0 none 0 0 0:=⟨.inl rfl,.inl rfl,(gK w 0).to⟩
structure StE(B:Nat)(w:World)(K:Nat->Prop)(g:Nat)(E:aC)(W:List aC)(n N:Nat)(rt tk:Int)(jl:Bool)(un:Int)(bo:Bool)(id x0 x2 x3:Int)(n0 n2 n3:Nat)(e:Ending)(w':World):Prop where
 ex:∃ b0 k0 d0 y0 b2 k2 d2 y2 b3 k3 d3 y3 K' n' N',e=.returned (.agg #[.int .u64 rt,.int .u64 tk,.slice b0 k0 d0,.bool jl,.int .u64 un,.bool bo,.int .u64 1,.slice none 0 0,.slice b2 k2 d2,.slice b3 k3 d3])/\Sx B w' K' g (gS E id 0) W n' N'/\n'<=n+10/\N'<=N+10/\(∀ b,K' b->K b\/w.heap.size<=b)/\Chg K w w'/\Nq w' K' y0 b0 k0 d0 (x0)/\k0<=n0+1/\(k0=0\/w.heap.size<=y0)/\Nq w' K' y2 b2 k2 d2 (x2)/\k2<=n2+1/\(k2=0\/w.heap.size<=y2)/\Nq w' K' y3 b3 k3 d3 (x3)/\k3<=n3+1/\(k3=0\/w.heap.size<=y3)
theorem o4(h:Sx B w K g E W n N)(hid:0<=id/\id < 18446744073709551616)(Q0:Nk w K z0 a0 n0 c0 x0)(m0:n0<=100000)(Q1:Nk w K z1 a1 n1 c1 x1)(m1:n1<=100000)(Q2:Nk w K z2 a2 n2 c2 x2)(m2:n2<=100000)(M:Nk w K z3 a3 n3 c3 x3)(m3:n3<=100000)(hn:n+40<=4000000000000000000)(hN:N+40<=100000000):Calls Tryz.prog 18 #[pg g,.int .u64 id,.agg #[.int .u64 rt,.int .u64 tk,.slice a0 n0 c0,.bool jl,.int .u64 un,.bool bo,.int .u64 pe,.slice a1 n1 c1,.slice a2 n2 c2,.slice a3 n3 c3]] w (StE B w K g E W n N rt tk jl un bo id x0 x2 x3 n0 n2 n3):=by
 have U:=dw h;refine ax (n:=16) Tryz.func18 rfl ?_
 refine ae (ah (ta 5 [iU rt,iU tk,.slice a0 n0 c0,.bool jl,iU un,.bool bo,iU pe,.slice a1 n1 c1,.slice a2 n2 c2,.slice a3 n3 c3] 28 (pg) ?_));intro v1 g2 s r B;replace U:=U.new s r B;clear s r B;refine ta 6 [iU 0,iU 0,.slice none 0 0,bF,iU 0,bF,iU 0,.slice none 0 0,.slice none 0 0,.slice none 0 0] 28 (pg) ?_
 intro v3 g4 p q B;replace U:=U.new p q B;clear p q B;refine af (aa (ae (ah (tlr 7 [iU rt,iU tk,.slice a0 n0 c0,.bool jl,iU un,.bool bo,iU pe,.slice a1 n1 c1,.slice a2 n2 c2,.slice a3 n3 c3] (U.bk 1 rfl) 0 (tc 8 56 #[.agg #[iU rt,iU tk,.slice a0 n0 c0,.bool jl,iU un,.bool bo,iU pe,.slice a1 n1 c1,.slice a2 n2 c2,.slice a3 n3 c3]] (nM (Q0.op U.ta.km U.ta.cc).nat (by omega) (Q1.op U.ta.km U.ta.cc).nat (by omega) (Q2.op U.ta.km U.ta.cc).nat (by omega) (M.op U.ta.km U.ta.cc).nat (by omega)) ?_)))));rintro _ v9 ⟨d,f,c,Z,m,o,l,zv6,i,j,b,Q,a,e,k,zv8,rfl,G,x,P,F,y,I,M2,u,O,H,v,mv8,B⟩;refine⟨_,rfl,?_⟩;have z:=ne3 x U.ta.size;have fv6:=ne3 y U.ta.size;have D:=ne3 u U.ta.size;have A:=ne3 v U.ta.size;have L:=U.lt;replace U:=((((U.keep B).add L (aU U.ta.sx G x) x).add L (aU U.ta.sx F y) y).add L (aU U.ta.sx M2 u) u).add L (aU U.ta.sx H v) v;clear L B G x F y M2 u H v;refine ts (U.bk 1 rfl) 0 (.agg #[iU rt,iU tk,.slice d f c,.bool jl,iU un,.bool bo,iU pe,.slice m o l,.slice i j b,.slice a e k]) [iU rt,iU tk,.slice d f c,.bool jl,iU un,.bool bo,iU pe,.slice m o l,.slice i j b,.slice a e k] [iU rt,iU tk,.slice d f c,.bool jl,iU un,.bool bo,iU pe,.slice m o l,.slice i j b,.slice a e k] ?_
 intro v10 Y C;replace U:=U.put 1 rfl C Y (by decide);clear Y C;refine af (aa (ae (ah (t 9 (.agg #[.slice none 0 0]) (t 10 (pq g2 6) (ts (U.bk 1 rfl) 6 (iU 1) [iU 1] [iU rt,iU tk,.slice d f c,.bool jl,iU un,.bool bo,iU 1,.slice m o l,.slice i j b,.slice a e k] ?_))))));intro v11 Y C;replace U:=U.put 1 rfl C Y (by decide);clear Y C;refine t 11 (pq g2 7) (ts (U.bk 1 rfl) 7 (.agg #[.slice none 0 0]) [.slice none 0 0] [iU rt,iU tk,.slice d f c,.bool jl,iU un,.bool bo,iU 1,.slice none 0 0,.slice i j b,.slice a e k] ?_);intro v12 Y C;replace U:=U.put 1 rfl C Y (by decide);clear Y C;refine af (aa (ae (ah (t 12 (pg g) (t 13 (iU id) (tc 14 57 #[pg g,iU id,iU 0] (oJ U.ta.sx hid (by omega) (by omega)) ?_))))));rintro _ R ⟨rfl,V,S,hK,X⟩;refine⟨_,rfl,?_⟩;replace U:=U.op S hK X;refine af (aa (aD [(5,pg g2),(6,pg g4)] (ae (ah (tlr 15 [iU rt,iU tk,.slice d f c,.bool jl,iU un,.bool bo,iU 1,.slice none 0 0,.slice i j b,.slice a e k] (U.bk 1 rfl) 0 (ts (U.bk 0 rfl) 0 (.agg #[iU rt,iU tk,.slice d f c,.bool jl,iU un,.bool bo,iU 1,.slice none 0 0,.slice i j b,.slice a e k]) [iU rt,iU tk,.slice d f c,.bool jl,iU un,.bool bo,iU 1,.slice none 0 0,.slice i j b,.slice a e k] [iU rt,iU tk,.slice d f c,.bool jl,iU un,.bool bo,iU 1,.slice none 0 0,.slice i j b,.slice a e k] ?_))))));intro J Y C;replace U:=U.put 0 rfl C Y (by decide);clear Y C;refine af (aa (ay (aA (.agg #[iU rt,iU tk,.slice d f c,.bool jl,iU un,.bool bo,iU 1,.slice none 0 0,.slice i j b,.slice a e k]) (rsc (T:=28) 6 (lr (U.bk 0 rfl) 0)) ?_)));exact⟨_,_,_,_,_,_,_,_,_,_,_,_,_,_,_,rfl,U.ta.sx,by omega,by omega,U.ta.km,U.ta.cc,(U.nq 3 rfl),by omega,z,(U.nq 1 rfl),by omega,D,(U.nq 0 rfl),by omega,A⟩
theorem zB{p:Int}(h:Sx B w K g E W n N)(hid:0<=id/\id < 18446744073709551616)(e:Nk w K z0 a0 n0 c0 x0)(m0:n0<=100000)(d:Nk w K z1 a1 n1 c1 x1)(m1:n1<=100000)(hn:n+40<=4000000000000000000)(v:N+40<=100000000):Calls Tryz.prog 147 #[pg g,.int .u64 id,.agg #[.slice a0 n0 c0,.int .u64 p,.slice a1 n1 c1]] w (SxF B w K g (letE E id p) W n N (.tuple #[])):=by
 have A:=h.at
 refine ax (n:=11) Tryz.func147 rfl ?_
 refine ae (ah (ta 5 [.slice a0 n0 c0,iU p,.slice a1 n1 c1] 55 (pg) ?_));intro v1 g2 c a B;have o:=Nat.le_trans A.size a;have b:=A.new a;have k:=ne1 e.lt a;have j:=ne1 d.lt a;replace A:=A.keep B;replace e:=e.keep B;replace d:=d.keep B;refine af (aa (ah (t 6 (pg g) (t 7 (iU id) (t 8 (pq g2 1) (tl 9 (iU p) c 1 (tc 10 214 #[pg g,iU id,iU p] (vN A.sx hid (by omega) (by omega)) ?_)))))));rintro _ s ⟨rfl,r,q,u,S,m,l,i,f⟩;refine⟨_,rfl,?_⟩;replace e:=e.op i f;replace d:=d.op i f;obtain⟨c,b⟩:=fq c b i f;replace A:=A.op S i f;refine af (bY (.tuple #[]) (rs0) ?_);exact⟨rfl,_,_,_,A.sx,by omega,by omega,A.km,A.cc⟩
structure HoE(B:Nat)(w:World)(K:Nat->Prop)(g:Nat)(E:aC)(W:List aC)(n N:Nat)(tk pe id x0 x4:Int)(n0 n4:Nat)(e:Ending)(w':World):Prop where
 ex:∃ b0 k0 d0 y0 b1 k1 d1 y1 K' n' N',e=.returned (.agg #[.slice b0 k0 d0,.int .u64 ((pe - 1) % 18446744073709551616),.slice b1 k1 d1])/\Sx B w' K' g (gS E id ((pe - 1) % 18446744073709551616)) W n' N'/\n'<=n+10/\N'<=N+10/\(∀ b,K' b->K b\/w.heap.size<=b)/\Chg K w w'/\Nq w' K' y0 b0 k0 d0 (x4)/\k0<=n4+1/\(k0=0\/w.heap.size<=y0)/\Nq w' K' y1 b1 k1 d1 (x4 * (tk * U36) / x0)/\k1<=n0+n4+40/\(k1=0\/w.heap.size<=y1)
theorem mm{dp:Int}{i c4 z4:Nat}{x4:Int}{l s z5:Nat}{x5:Int}(h:Sx B w K g E W n N)(hid:0<=id/\id < 18446744073709551616)(v:0<=tk/\tk < 18446744073709551616)(L:Nk w K z0 a0 n0 c0 x0)(m0:n0<=100000)(X:Nk w K z1 a1 n1 c1 x1)(m1:n1<=100000)(Z:Nk w K z2 a2 n2 c2 x2)(m2:n2<=100000)(O:Nk w K z3 a3 n3 c3 x3)(m3:n3<=100000)(x:Nk w K z4 a4 i c4 x4)(m4:i<=100000)(Q:Nk w K z5 a5 l s x5)(m5:l<=100000)(hn:n+40<=4000000000000000000)(V:N+40<=100000000):Calls Tryz.prog 20 #[pg g,.int .u64 id,.agg #[.int .u64 rt,.int .u64 tk,.slice a0 n0 c0,.bool jl,.int .u64 un,.bool bo,.int .u64 pe,.slice a1 n1 c1,.slice a2 n2 c2,.slice a3 n3 c3],.agg #[.slice a4 i c4,.int .u64 dp,.slice a5 l s]] w (HoE B w K g E W n N tk pe id x0 x4 n0 i):=by
 have U:=dw h;refine ax (n:=29) Tryz.func20 rfl ?_
 refine ae (ah (ta 6 [iU rt,iU tk,.slice a0 n0 c0,.bool jl,iU un,.bool bo,iU pe,.slice a1 n1 c1,.slice a2 n2 c2,.slice a3 n3 c3] 28 (pg) ?_));intro v1 g2 q p B;replace U:=U.new q p B;clear q p B;refine ta 7 [.slice a4 i c4,iU dp,.slice a5 l s] 55 (pg) ?_
 intro v3 g4 k m B;replace U:=U.new k m B;clear k m B;refine ta 8 [.slice none 0 0,iU 0,.slice none 0 0] 55 (pg) ?_
 intro v5 g6 o j B;replace U:=U.new o j B;clear o j B;refine af (aa (ae (ah (t 10 (pq g2 6) (tl 11 (iU pe) (U.bk 2 rfl) 6 (tq 12 (iU (IntKind.u64.wrap (pe - 1))) (iU ((pe - 1) % 18446744073709551616)) (congrArg (Value.int .u64) (IntKind.wrap_u64 _)) (t 9 (iU ((pe - 1) % 18446744073709551616)) (af (aa (ae (ah (t 13 (pg g) (t 14 (iU id) (t 15 (iU ((pe - 1) % 18446744073709551616)) (tc 16 57 #[pg g,iU id,iU ((pe - 1) % 18446744073709551616)] (oJ U.ta.sx hid (by omega) (by omega)) ?_)))))))))))))));rintro _ P ⟨rfl,R,S,H,G⟩;refine⟨_,rfl,?_⟩;replace U:=U.op S H G;refine af (aa (aD [(6,pg g2),(7,pg g4),(8,pg g6),(9,iU ((pe - 1) % 18446744073709551616))] (ae ?_)));replace U:=U.drew;refine aO (fun A=>Blk A g4 [.slice a4 i c4,iU dp,.slice a5 l s] 55/\Blk A g2 [iU rt,iU tk,.slice a0 n0 c0,.bool jl,iU un,.bool bo,iU pe,.slice a1 n1 c1,.slice a2 n2 c2,.slice a3 n3 c3] 28) (fun _=>false) ⟨(U.bk 1 rfl),(U.bk 2 rfl)⟩ ?_
 refine z 0 17 (pg g4) (zlr 1 18 [.slice a4 i c4] (fun _ h=>h.1) 0 (z 3 20 (iU ((pe - 1) % 18446744073709551616)) (z 4 21 (pq g2 1) (zl 5 22 (iU tk) (fun _ h=>h.2) 1 (z 6 23 (pq g2 2) (zlr 7 24 [.slice a0 n0 c0] (fun _ h=>h.2) 2 (z 8 25 (pg g4) (zlr 9 26 [.slice a4 i c4] (fun _ h=>h.1) 0 (zc 2 19 59 #[.agg #[.slice a4 i c4]] (j6 (x.op U.ta.km U.ta.cc).nat (by omega)) ?_)))))))));rintro _ v10 ⟨f,e,d,I,rfl,M,h,J,B⟩;have u:=ne3 h U.ta.size;replace U:=U.num M h B;clear M h B;refine⟨_,rfl,⟨(U.bk 1 rfl),(U.bk 2 rfl)⟩,?_⟩;refine zc 10 27 60 #[iU tk,.agg #[.slice a0 n0 c0],.agg #[.slice a4 i c4]] (xm (L.op U.ta.km U.ta.cc).nat (by omega) (x.op U.ta.km U.ta.cc).nat (by omega) v) ?_
 rintro _ v12 ⟨a,b,c,D,rfl,M,h,y,B⟩;have r:=ne3 h U.ta.size;replace U:=U.num M h B;clear M h B;refine⟨_,rfl,⟨(U.bk 1 rfl),(U.bk 2 rfl)⟩,?_⟩;refine zr 11 28 (.agg #[.slice f e d,iU ((pe - 1) % 18446744073709551616),.slice a b c]) (by intro _ _;kernel_rfl) (zs 12 (U.bk 0 rfl) 0 (.agg #[.slice f e d,iU ((pe - 1) % 18446744073709551616),.slice a b c]) [.slice f e d,iU ((pe - 1) % 18446744073709551616),.slice a b c] [.slice f e d,iU ((pe - 1) % 18446744073709551616),.slice a b c] ?_);intro F Y C;replace U:=U.put 0 rfl C Y (by decide);clear Y C;refine⟨⟨(U.bk 1 rfl),(U.bk 2 rfl)⟩,?_⟩;refine aG (aa (aD [(8,pg g6)] (ay (aA (.agg #[.slice f e d,iU ((pe - 1) % 18446744073709551616),.slice a b c]) (rsc (T:=55) 8 (lr (U.bk 0 rfl) 0)) ?_))));exact⟨_,_,_,_,_,_,_,_,_,_,_,rfl,U.ta.sx,by omega,by omega,U.ta.km,U.ta.cc,(U.nq 1 rfl),by omega,u,(U.nq 0 rfl),by omega,r⟩
def sN(E:aC)(id pe tk cur:Int):aC:=letE (wj E id pe (hX (got E (Ky.mk 7 id ((pe - 1) % 18446744073709551616))) 0+cur / tk) 1) id ((pe - 1) % 18446744073709551616)
structure ClE(B:Nat)(w:World)(K:Nat->Prop)(g:Nat)(E:aC)(W:List aC)(n N:Nat)(rt tk:Int)(jl:Bool)(un:Int)(bo:Bool)(pe id x0 x1 x2 x3:Int)(n0 n1 n2 n3:Nat)(e:Ending)(w':World):Prop where
 ex:∃ b0 k0 d0 y0 b1 k1 d1 y1 b2 k2 d2 y2 b3 k3 d3 y3 K' n' N',e=.returned (.tuple #[.agg #[.int .u64 rt,.int .u64 tk,.slice b0 k0 d0,.bool jl,.int .u64 un,.bool bo,.int .u64 ((pe+1) % 18446744073709551616),.slice none 0 0,.slice b2 k2 d2,.slice b3 k3 d3],.agg #[.slice b1 k1 d1]])/\Sx B w' K' g (sN E id pe tk x1) W n' N'/\n'<=n+20/\N'<=N+20/\(∀ b,K' b->K b\/w.heap.size<=b)/\Chg K w w'/\Nq w' K' y0 b0 k0 d0 (x0)/\k0<=n0+1/\(k0=0\/w.heap.size<=y0)/\Nq w' K' y1 b1 k1 d1 ((if tk=0 then x1 else 0))/\k1<=n1+1/\(k1=0\/w.heap.size<=y1)/\Nq w' K' y2 b2 k2 d2 ((if tk=0 then ff x2 x1 else x2))/\k2<=n2+1/\(k2=0\/w.heap.size<=y2)/\Nq w' K' y3 b3 k3 d3 (x3)/\k3<=n3+1/\(k3=0\/w.heap.size<=y3)
theorem Nq.eqv{z c:Nat}{x y:Int}(h:Nq w K z ao n c x)(e:x=y):Nq w K z ao n c y:=e▸h
theorem xD(h:Sx B w K g E W n N)(hid:0<=id/\id < 18446744073709551616)(htk:0<=tk/\tk < 18446744073709551616)(Q0:Nk w K z0 a0 n0 c0 x0)(m0:n0<=100000)(Q1:Nk w K z1 a1 n1 c1 x1)(m1:n1<=100000)(Q2:Nk w K z2 a2 n2 c2 x2)(m2:n2<=100000)(Q3:Nk w K z3 a3 n3 c3 x3)(m3:n3<=100000)(hn:n+60<=4000000000000000000)(hN:N+60<=100000000):Calls Tryz.prog 145 #[pg g,.int .u64 id,.agg #[.int .u64 rt,.int .u64 tk,.slice a0 n0 c0,.bool jl,.int .u64 un,.bool bo,.int .u64 pe,.slice a1 n1 c1,.slice a2 n2 c2,.slice a3 n3 c3]] w (ClE B w K g E W n N rt tk jl un bo pe id x0 x1 x2 x3 n0 n1 n2 n3):=by
 have U:=dw h;refine ax (n:=60) Tryz.func145 rfl ?_
 refine ae (ah (ta 5 [iU rt,iU tk,.slice a0 n0 c0,.bool jl,iU un,.bool bo,iU pe,.slice a1 n1 c1,.slice a2 n2 c2,.slice a3 n3 c3] 28 (pg) ?_));intro v1 g2 ad al B;replace U:=U.new ad al B;clear ad al B;refine ta 6 [iU 0,iU 0,.slice none 0 0,bF,iU 0,bF,iU 0,.slice none 0 0,.slice none 0 0,.slice none 0 0] 28 (pg) ?_
 intro v3 g4 aj ak B;replace U:=U.new aj ak B;clear aj ak B;refine ta 7 [.slice none 0 0] 26 (pg) ?_
 intro v5 g6 ac ag B;replace U:=U.new ac ag B;clear ac ag B;refine af (aa (ae (ah (tlr 12 [iU rt,iU tk,.slice a0 n0 c0,.bool jl,iU un,.bool bo,iU pe,.slice a1 n1 c1,.slice a2 n2 c2,.slice a3 n3 c3] (U.bk 2 rfl) 0 (tc 13 56 #[.agg #[iU rt,iU tk,.slice a0 n0 c0,.bool jl,iU un,.bool bo,iU pe,.slice a1 n1 c1,.slice a2 n2 c2,.slice a3 n3 c3]] (nM (Q0.op U.ta.km U.ta.cc).nat (by omega) (Q1.op U.ta.km U.ta.cc).nat (by omega) (Q2.op U.ta.km U.ta.cc).nat (by omega) (Q3.op U.ta.km U.ta.cc).nat (by omega)) ?_)))));rintro _ v11 ⟨f,k,j,zv7,d,e,i,zv8,q,p,r,zv9,a,c,b,zv10,rfl,M0,h0,mv7,M1,h1,mv8,M2,h2,mv9,M3,h3,mv10,B⟩;refine⟨_,rfl,?_⟩;have ab:=ne3 h0 U.ta.size;have fv8:=ne3 h1 U.ta.size;have fv9:=ne3 h2 U.ta.size;have D:=ne3 h3 U.ta.size;have L:=U.lt;replace U:=((((U.keep B).add L (aU U.ta.sx M0 h0) h0).add L (aU U.ta.sx M1 h1) h1).add L (aU U.ta.sx M2 h2) h2).add L (aU U.ta.sx M3 h3) h3;clear L B M0 h0 M1 h1 M2 h2 M3 h3;refine ts (U.bk 2 rfl) 0 (.agg #[iU rt,iU tk,.slice f k j,.bool jl,iU un,.bool bo,iU pe,.slice d e i,.slice q p r,.slice a c b]) [iU rt,iU tk,.slice f k j,.bool jl,iU un,.bool bo,iU pe,.slice d e i,.slice q p r,.slice a c b] [iU rt,iU tk,.slice f k j,.bool jl,iU un,.bool bo,iU pe,.slice d e i,.slice q p r,.slice a c b] ?_
 intro v12 Y C;replace U:=U.put 2 rfl C Y (by decide);clear Y C;refine af (aa (ae (ah (t 14 (pq g2 6) (tl 15 (iU pe) (U.bk 2 rfl) 6 (tq 16 (iU (IntKind.u64.wrap (pe - 1))) (iU ((pe - 1) % 18446744073709551616)) (congrArg (Value.int .u64) (IntKind.wrap_u64 _)) (t 8 (iU ((pe - 1) % 18446744073709551616)) (af (aa (aD [(0,pg g),(1,iU id),(5,pg g2),(6,pg g4),(7,pg g6),(8,iU ((pe - 1) % 18446744073709551616))] (ae (ah (t 18 (pq g2 7) (tlr 19 [.slice d e i] (U.bk 2 rfl) 7 (t 20 (pq g2 1) (tl 21 (iU tk) (U.bk 2 rfl) 1 (tc 22 212 #[.agg #[.slice d e i],iU tk] (eOver (U.nq 2 rfl).nat (by omega) htk) ?_)))))))))))))))));rintro _ v14 ⟨u,v,s,zq13,rfl,M,h,mq13,B⟩;refine⟨_,rfl,?_⟩;have fq13:=ne3 h U.ta.size;replace U:=U.num M h B;clear M h B;refine t 17 (.tuple #[.agg #[.slice u v s],iI (dvZ tk)]) (t 23 (.agg #[.slice u v s]) (t 24 (iI (dvZ tk)) (ta 9 [.slice none 0 0] 26 (pg) ?_)));intro v15 g16 O P B;replace U:=U.new O P B;clear O P B;refine ts (U.bk 0 rfl) 0 (.agg #[.slice u v s]) [.slice u v s] [.slice u v s] ?_
 intro v17 Y C;replace U:=U.put 0 rfl C Y (by decide);clear Y C;refine t 10 (iI (dvZ tk)) (af (aa (ae ?_)));replace U:=U.drew;refine aO (fun I=>Blk I g2 [iU rt,iU tk,.slice f k j,.bool jl,iU un,.bool bo,iU pe,.slice d e i,.slice q p r,.slice a c b] 28/\Blk I g16 [.slice u v s] 26) (fun _=>false) ⟨(U.bk 3 rfl),(U.bk 0 rfl)⟩ ?_
 refine z 0 25 (pg g) (z 1 26 (iU id) (z 2 27 (pq g2 6) (zl 3 28 (iU pe) (fun _ h=>h.1) 6 (z 4 29 (pg g) (z 5 30 (iU id) (z 6 31 (iU ((pe - 1) % 18446744073709551616)) (zlr 8 33 [.slice u v s] (fun _ h=>h.2) 0 (zc 7 32 213 #[pg g,iU id,iU ((pe - 1) % 18446744073709551616)] (eJ U.ta.sx hid (by omega) (by omega)) ?_))))))));rintro _ v20 ⟨ai,X,am,rfl,zr18,K19,S,V,R,Q,mr18,h⟩;have L:=U.lt;replace U:=(U.op S V R).add L Q h;clear L S V R Q h;refine⟨_,rfl,⟨(U.bk 3 rfl),(U.bk 0 rfl)⟩,?_⟩;refine zc 9 34 8 #[.agg #[.slice ai X am],.agg #[.slice u v s]] (kP (U.nq 0 rfl).nat (by omega) (U.nq 1 rfl).nat (by omega)) ?_
 rintro _ v22 ⟨H,J,G,zq21,rfl,M,h,mq21,B⟩;have fq21:=ne3 h U.ta.size;replace U:=U.num M h B;clear M h B;refine⟨_,rfl,⟨(U.bk 3 rfl),(U.bk 0 rfl)⟩,?_⟩;refine zr 10 35 (.agg #[.slice H J G,iU 1]) (by intro _ _;kernel_rfl) (zc 11 36 115 #[pg g,iU id,iU pe,.agg #[.slice H J G,iU 1]] (gR U.ta.sx hid (U.nq 0 rfl).nk (by omega) (by omega) (by omega)) ?_);rintro _ v24 ⟨rfl,K23,S,V,R⟩;replace U:=U.op S V R;refine⟨_,rfl,⟨(U.bk 3 rfl),(U.bk 0 rfl)⟩,?_⟩;refine aG (aa (aD [(0,pg g),(1,iU id),(5,pg g2),(6,pg g4),(7,pg g6),(8,iU ((pe - 1) % 18446744073709551616))] (ae (ah (t 37 (pg g) (t 38 (iU id) (t 39 (iU ((pe - 1) % 18446744073709551616)) (tc 40 214 #[pg g,iU id,iU ((pe - 1) % 18446744073709551616)] (vN U.ta.sx hid (by omega) (by omega)) ?_))))))));rintro _ v29 ⟨rfl,K25,n26,N27,S,qn26,qN27,V,R⟩;refine⟨_,rfl,?_⟩;replace U:=U.op S V R;refine af (aa (ae (ah (ta 11 [.slice none 0 0] 26 (pg) ?_))));intro v30 y F A B;replace U:=U.new F A B;clear F A B;refine af (aa (ae (ae (ah (t 41 (pq g2 1) (tl 42 (iU tk) (U.bk 4 rfl) 1 ?_))))));by_cases x:(tk:Int)=0
 ·refine tq 43 (.bool ((tk:Int) == 0)) (bT) (congrArg Value.bool (beq_iff_eq.2 x)) (af (aa (bJ (ae (ah (t 44 (pq g2 7) (tlr 45 [.slice d e i] (U.bk 4 rfl) 7 (ts (U.bk 0 rfl) 0 (.agg #[.slice d e i]) [.slice d e i] [.slice d e i] ?_))))))));intro v33 Y C;replace U:=U.put 0 rfl C Y (by decide);clear Y C;refine af (aa (ah (t 46 (pq g2 8) (tlr 47 [.slice q p r] (U.bk 4 rfl) 8 (t 48 (pq g2 7) (tlr 49 [.slice d e i] (U.bk 4 rfl) 7 (tc 50 215 #[.agg #[.slice q p r],.agg #[.slice d e i]] (sy (U.nq 4 rfl).nat (by omega) (U.nq 5 rfl).nat (by omega)) ?_)))))));rintro _ v35 ⟨m,o,l,zq34,rfl,M,h,mq34,B⟩;refine⟨_,rfl,?_⟩;have Z:=ne3 h U.ta.size;replace U:=U.num M h B;clear M h B;refine t 51 (pq g2 8) (ts (U.bk 4 rfl) 8 (.agg #[.slice m o l]) [.slice m o l] [iU rt,iU tk,.slice f k j,.bool jl,iU un,.bool bo,iU pe,.slice d e i,.slice m o l,.slice a c b] ?_);intro v36 Y C;replace U:=U.put 4 rfl C Y (by decide);clear Y C;refine af (aa (aD [(5,pg g2),(6,pg g4),(7,pg g6),(11,pg y)] (ae (ah (t 52 (pq g2 6) (tl 53 (iU pe) (U.bk 4 rfl) 6 (tq 54 (iU (IntKind.u64.wrap (pe+1))) (iU ((pe+1) % 18446744073709551616)) (congrArg (Value.int .u64) (IntKind.wrap_u64 _)) (t 55 (pq g2 6) (ts (U.bk 4 rfl) 6 (iU ((pe+1) % 18446744073709551616)) [iU ((pe+1) % 18446744073709551616)] [iU rt,iU tk,.slice f k j,.bool jl,iU un,.bool bo,iU ((pe+1) % 18446744073709551616),.slice d e i,.slice m o l,.slice a c b] ?_)))))))));intro v37 Y C;replace U:=U.put 4 rfl C Y (by decide);clear Y C;refine af (aa (ae (ah (t 56 (.agg #[.slice none 0 0]) (t 57 (pq g2 7) (ts (U.bk 4 rfl) 7 (.agg #[.slice none 0 0]) [.slice none 0 0] [iU rt,iU tk,.slice f k j,.bool jl,iU un,.bool bo,iU ((pe+1) % 18446744073709551616),.slice none 0 0,.slice m o l,.slice a c b] ?_))))));intro v38 Y C;replace U:=U.put 4 rfl C Y (by decide);clear Y C;refine af (aa (ae ?_));replace U:=U.drew;refine aO (fun I=>Blk I g2 [iU rt,iU tk,.slice f k j,.bool jl,iU un,.bool bo,iU ((pe+1) % 18446744073709551616),.slice none 0 0,.slice m o l,.slice a c b] 28/\Blk I y [.slice d e i] 26) (fun _=>false) ⟨(U.bk 4 rfl),(U.bk 0 rfl)⟩ ?_
  refine zlr 0 58 [iU rt,iU tk,.slice f k j,.bool jl,iU un,.bool bo,iU ((pe+1) % 18446744073709551616),.slice none 0 0,.slice m o l,.slice a c b] (fun _ h=>h.1) 0 (zlr 1 59 [.slice d e i] (fun _ h=>h.2) 0 (zs 2 (U.bk 3 rfl) 0 (.agg #[iU rt,iU tk,.slice f k j,.bool jl,iU un,.bool bo,iU ((pe+1) % 18446744073709551616),.slice none 0 0,.slice m o l,.slice a c b]) [iU rt,iU tk,.slice f k j,.bool jl,iU un,.bool bo,iU ((pe+1) % 18446744073709551616),.slice none 0 0,.slice m o l,.slice a c b] [iU rt,iU tk,.slice f k j,.bool jl,iU un,.bool bo,iU ((pe+1) % 18446744073709551616),.slice none 0 0,.slice m o l,.slice a c b] ?_));intro v39 Y C;replace U:=U.put 3 rfl C Y (by decide);clear Y C;refine⟨⟨(U.bk 4 rfl),(U.bk 0 rfl)⟩,?_⟩;refine zs 3 (U.bk 2 rfl) 0 (.agg #[.slice d e i]) [.slice d e i] [.slice d e i] ?_
  intro v40 Y C;replace U:=U.put 2 rfl C Y (by decide);clear Y C;refine⟨⟨(U.bk 4 rfl),(U.bk 0 rfl)⟩,?_⟩;refine aG (aa (ay (aA (.tuple #[.agg #[iU rt,iU tk,.slice f k j,.bool jl,iU un,.bool bo,iU ((pe+1) % 18446744073709551616),.slice none 0 0,.slice m o l,.slice a c b],.agg #[.slice d e i]]) (rscc (T:=28) (T2:=26) 6 7 (lr (U.bk 3 rfl) 0) (lr (U.bk 2 rfl) 0)) ?_)));exact⟨_,_,_,_,_,_,_,_,_,_,_,_,_,_,_,_,_,_,_,rfl,U.ta.sx,by omega,by omega,U.ta.km,U.ta.cc,(U.nq 7 rfl),by omega,ab,(U.nq 6 rfl).eqv (if_pos x).symm,by omega,fv8,(U.nq 0 rfl).eqv (if_pos x).symm,by omega,Z,(U.nq 4 rfl),by omega,D⟩
 ·refine tq 43 (.bool ((tk:Int) == 0)) (bF) (congrArg Value.bool (beq_eq_false_iff_ne.2 x)) (af (aa (aZ (aM (aa (ae (ah (t 52 (pq g2 6) (tl 53 (iU pe) (U.bk 4 rfl) 6 (tq 54 (iU (IntKind.u64.wrap (pe+1))) (iU ((pe+1) % 18446744073709551616)) (congrArg (Value.int .u64) (IntKind.wrap_u64 _)) (t 55 (pq g2 6) (ts (U.bk 4 rfl) 6 (iU ((pe+1) % 18446744073709551616)) [iU ((pe+1) % 18446744073709551616)] [iU rt,iU tk,.slice f k j,.bool jl,iU un,.bool bo,iU ((pe+1) % 18446744073709551616),.slice d e i,.slice q p r,.slice a c b] ?_))))))))))));intro v41 Y C;replace U:=U.put 4 rfl C Y (by decide);clear Y C;refine af (aa (aD [(5,pg g2),(6,pg g4),(7,pg g6),(11,pg y)] (ae (ah (t 56 (.agg #[.slice none 0 0]) (t 57 (pq g2 7) (ts (U.bk 4 rfl) 7 (.agg #[.slice none 0 0]) [.slice none 0 0] [iU rt,iU tk,.slice f k j,.bool jl,iU un,.bool bo,iU ((pe+1) % 18446744073709551616),.slice none 0 0,.slice q p r,.slice a c b] ?_)))))));intro v42 Y C;replace U:=U.put 4 rfl C Y (by decide);clear Y C;refine af (aa (ae ?_));replace U:=U.drew;refine aO (fun I=>Blk I g2 [iU rt,iU tk,.slice f k j,.bool jl,iU un,.bool bo,iU ((pe+1) % 18446744073709551616),.slice none 0 0,.slice q p r,.slice a c b] 28/\Blk I y [.slice none 0 0] 26) (fun _=>false) ⟨(U.bk 4 rfl),(U.bk 0 rfl)⟩ ?_
  refine zlr 0 58 [iU rt,iU tk,.slice f k j,.bool jl,iU un,.bool bo,iU ((pe+1) % 18446744073709551616),.slice none 0 0,.slice q p r,.slice a c b] (fun _ h=>h.1) 0 (zlr 1 59 [.slice none 0 0] (fun _ h=>h.2) 0 (zs 2 (U.bk 3 rfl) 0 (.agg #[iU rt,iU tk,.slice f k j,.bool jl,iU un,.bool bo,iU ((pe+1) % 18446744073709551616),.slice none 0 0,.slice q p r,.slice a c b]) [iU rt,iU tk,.slice f k j,.bool jl,iU un,.bool bo,iU ((pe+1) % 18446744073709551616),.slice none 0 0,.slice q p r,.slice a c b] [iU rt,iU tk,.slice f k j,.bool jl,iU un,.bool bo,iU ((pe+1) % 18446744073709551616),.slice none 0 0,.slice q p r,.slice a c b] ?_));intro v43 Y C;replace U:=U.put 3 rfl C Y (by decide);clear Y C;refine⟨⟨(U.bk 4 rfl),(U.bk 0 rfl)⟩,?_⟩;refine zs 3 (U.bk 2 rfl) 0 (.agg #[.slice none 0 0]) [.slice none 0 0] [.slice none 0 0] ?_
  intro v44 Y C;replace U:=U.put 2 rfl C Y (by decide);clear Y C;refine⟨⟨(U.bk 4 rfl),(U.bk 0 rfl)⟩,?_⟩;refine aG (aa (ay (aA (.tuple #[.agg #[iU rt,iU tk,.slice f k j,.bool jl,iU un,.bool bo,iU ((pe+1) % 18446744073709551616),.slice none 0 0,.slice q p r,.slice a c b],.agg #[.slice none 0 0]]) (rscc (T:=28) (T2:=26) 6 7 (lr (U.bk 3 rfl) 0) (lr (U.bk 2 rfl) 0)) ?_)));exact⟨_,_,_,_,none,0,0,0,_,_,_,_,_,_,_,_,_,_,_,rfl,U.ta.sx,by omega,by omega,U.ta.km,U.ta.cc,(U.nq 6 rfl),by omega,ab,(ee _ _).eqv (if_neg x).symm,by omega,.inl rfl,(U.nq 4 rfl).eqv (if_neg x).symm,by omega,fv9,(U.nq 3 rfl),by omega,D⟩
end
end Fo
end
end Go.Proofs.YtgdohcdlkonhiaaGreatDoor
