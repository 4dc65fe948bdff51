import Derived.Test.YthfepflplbahkaaGreatDoorJaq
set_option maxRecDepth 100000
set_option maxHeartbeats 8000000
namespace Go.Proofs.YthfepflplbahkaaGreatDoor
section
namespace Fo
open Go.RowKit Go.Lib Pg Lim Gl Kv Bk Pw
set_option linter.unusedVariables false
theorem uW {w:World} {K K':Nat->Prop} {x:Nat} {cs:List Value} {t:TypeId} (X:Blk w x cs t) (h:¬ K x) (hK:∀ b,K' b->K b\/w.heap.size<=b):¬ K' x:=fun q=>(hK x q).elim h (fun q=>by have:=X.lt;omega)
abbrev Bx:=Nat × List Value × TypeId
abbrev Nx:=Nat × Option Addr × Nat × Nat × Int
structure Ut (w0:World) (K0:Nat->Prop) (B g0:Nat) (W:List aD) (w:World) (K:Nat->Prop) (E:aD) (n N:Nat) (bs:List Bx) (qs:List Nx):Prop where
 ta:Bk.At B w0 K0 w K g0 E W n N
 b:∀ p∈bs,Blk w p.1 p.2.1 p.2.2/\¬ K p.1/\w0.heap.size<=p.1
 q:∀ r∈qs,Nq w K r.1 r.2.1 r.2.2.1 r.2.2.2.1 r.2.2.2.2
 e:∀ p∈bs,∀ r∈qs,r.2.2.1=0\/r.1≠p.1
 d:bs.Pairwise (fun a b=>a.1≠b.1)
section
variable {w0 w w':World} {B g0 n N n' N' g i:Nat} {K0 K K':Nat->Prop} {W:List aD} {E E':aD} {bs:List Bx} {qs:List Nx} {cs cs':List Value} {t:TypeId}
section
variable {z k d:Nat}{a:Option Addr}{x:Int}
theorem Ut.lt(h:Ut w0 K0 B g0 W w K E n N bs qs):∀ p∈bs,p.1 < w.heap.size:=fun p hp=>(h.b p hp).1.lt
theorem vg(h:Sx B w K g0 E W n N):Ut w K B g0 W w K E n N [] []:=⟨h.at,fun _ h=>(List.not_mem_nil h).elim,fun _ h=>(List.not_mem_nil h).elim,fun _ h=>(List.not_mem_nil h).elim,List.Pairwise.nil⟩
theorem Ut.keep(h:Ut w0 K0 B g0 W w K E n N bs qs)(b:Below w.heap.size w w'):Ut w0 K0 B g0 W w' K E n N bs qs:=⟨h.ta.keep b,fun p a=>⟨(h.b p a).1.keep b,(h.b p a).2⟩,fun r c=>(h.q r c).keep b,h.e,h.d⟩
theorem Ut.drew(h:Ut w0 K0 B g0 W w K E n N bs qs):Ut w0 K0 B g0 W w.drew K E n N bs qs:=h.keep (Below.refl _ _).drew
theorem Ut.op(h:Ut w0 K0 B g0 W w K E n N bs qs)(S:Sx B w' K' g0 E' W n' N')(c:∀ b,K' b->K b\/w.heap.size<=b)(hC:Chg K w w'):Ut w0 K0 B g0 W w' K' E' n' N' bs qs:=⟨h.ta.op S c hC,fun p a=>⟨(h.b p a).1.chg hC (h.b p a).2.1,uW (h.b p a).1 (h.b p a).2.1 c,(h.b p a).2.2⟩,fun r f=>(h.q r f).op c hC,h.e,h.d⟩
theorem Ut.add{s:Nat}(h:Ut w0 K0 B g0 W w K E n N bs qs)(L:∀ p∈bs,p.1 < s)(Q:Nq w K z a k d x)(f:k=0\/s<=z):Ut w0 K0 B g0 W w K E n N bs ((z,a,k,d,x) :: qs):=⟨h.ta,h.b,List.forall_mem_cons.2 ⟨Q,h.q⟩,fun p c=>List.forall_mem_cons.2 ⟨f.imp_right (fun q e=>by have:=L p c;have g:z=p.1:=e;omega),h.e p c⟩,h.d⟩
theorem Ut.num(h:Ut w0 K0 B g0 W w K E n N bs qs)(M:Nf w' z a k d x)(c:k=0\/w.heap.size<=z)(b:Below w.heap.size w w'):Ut w0 K0 B g0 W w' K E n N bs ((z,a,k,d,x) :: qs):=(h.keep b).add h.lt (ey h.ta.sx M c) c
theorem Ut.new(h:Ut w0 K0 B g0 W w K E n N bs qs)(X:Blk w' g cs t)(a:w.heap.size<=g)(b:Below w.heap.size w w'):Ut w0 K0 B g0 W w' K E n N ((g,cs,t) :: bs) qs:=by
 have u:=h.keep b;refine⟨u.ta,List.forall_mem_cons.2 ⟨⟨X,fun q=>by have:=h.ta.sx.sa.lt q;omega,Nat.le_trans h.ta.size a⟩,u.b⟩,u.q,List.forall_mem_cons.2 ⟨fun r f=>ne1 (h.q r f).lt a,u.e⟩,List.pairwise_cons.2 ⟨fun p c e=>by have:=h.lt p c;have i:g=p.1:=e;omega,u.d⟩⟩
theorem Ut.bk(h:Ut w0 K0 B g0 W w K E n N bs qs)(i:Nat)(hi:bs[i]?=some (g,cs,t)):Blk w g cs t:=(h.b _ (List.mem_of_getElem? hi)).1
theorem Ut.nq(h:Ut w0 K0 B g0 W w K E n N bs qs)(i:Nat)(hi:qs[i]?=some (z,a,k,d,x)):Nq w K z a k d x:=h.q _ (List.mem_of_getElem? hi)
theorem eO{p q:Bx}:∀ {bs:List Bx} {i:Nat},p∈bs.set i q->p=q\/p∈bs
 | [],_,h=>.inr h
 | b :: bs,0,h=>(List.mem_cons.1 h).imp id (List.mem_cons_of_mem _)
 | b :: bs,i+1,h=>(List.mem_cons.1 h).elim (fun e=>.inr (e▸List.mem_cons_self)) (fun h=>(eO h).imp id (List.mem_cons_of_mem _))
theorem qo{q:Bx}:∀ {bs:List Bx} {i:Nat},bs.Pairwise (fun a b=>a.1≠b.1)→(hi:bs[i]?=some (g,cs,t))→q.1=g→(bs.set i q).Pairwise (fun a b=>a.1≠b.1)∧∀ p ∈ bs.set i q,p≠q→p.1≠g
  | [],_,_,hi,_=>by simp at hi
  | b :: bs, 0, hd, hi, hq => by
    have e:b=(g,cs,t):=by simpa using hi
    have c:=List.pairwise_cons.1 hd;subst e;refine⟨List.pairwise_cons.2 ⟨fun p d=>by rw[hq];exact c.1 p d,c.2⟩,fun p d hn=>?_⟩;rcases List.mem_cons.1 d with h | h
    · exact absurd h hn
    · exact(c.1 p h).symm
  | b :: bs, i + 1, hd, hi, hq => by
    have c:=List.pairwise_cons.1 hd
    have f:bs[i]?=some (g,cs,t):=by simpa using hi
    obtain⟨r1,j⟩:= qo c.2 f hq
    have hb:b.1≠g:=c.1 _ (List.mem_of_getElem? f);refine⟨List.pairwise_cons.2 ⟨fun p d=>?_,r1⟩,fun p d hn=>?_⟩
    · rcases eO d with h | h
      · rw[h,hq];exact hb
      · exact c.1 p h
    · rcases List.mem_cons.1 d with h | h
      · rw[h];exact hb
      · exact j p h hn
theorem Ut.put(h:Ut w0 K0 B g0 W w K E n N bs qs)(i:Nat)(hi:bs[i]?=some (g,cs,t))(C:Chg (·=g) w w')(Y:Blk w' g cs' t)(f:t≠5):Ut w0 K0 B g0 W w' K E n N (bs.set i (g,cs',t)) qs:=by
 have hm:=List.mem_of_getElem? hi;obtain⟨X,nk,y⟩:=h.b _ hm;obtain⟨r1,j⟩:=qo (q:=(g,cs',t)) h.d hi rfl;refine⟨Bk.At.cell h.ta X C y nk f,fun p a=>?_,fun r c=>(h.q r c).cell C (h.e _ hm r c),fun p a=>?_,r1⟩
 ·by_cases e:p=(g,cs',t)
  ·subst e;exact⟨Y,nk,y⟩
  ·rcases eO a with q | q
   ·exact absurd q e
   ·exact⟨(h.b p q).1.chg C (j p a e),(h.b p q).2⟩
 ·rcases eO a with q | q
  ·rw[q]
   show ∀ r∈qs,r.2.2.1=0\/r.1≠g
   exact h.e _ hm
  ·exact h.e p q
theorem Ut.val{y:Int}(h:Ut w0 K0 B g0 W w K E n N bs qs)(i:Nat)(hi:qs[i]?=some (z,a,k,d,x))(e:x=y):Ut w0 K0 B g0 W w K E n N bs (qs.set i (z,a,k,d,y)):=by
 subst e
 rw[show qs.set i (z,a,k,d,x)=qs from List.ext_getElem? fun j=>by
  rw[List.getElem?_set];split
  ·rename_i e;subst e;split
   ·exact hi.symm
   ·rename_i b;rw[List.getElem?_eq_none (by omega)]
  ·rfl]
 exact h
theorem Ut.sel(h:Ut w0 K0 B g0 W w K E n N bs qs)(is v:List Nat)(hn:is.Nodup:=by decide):Ut w0 K0 B g0 W w K E n N (is.filterMap (bs[·]?)) (v.filterMap (qs[·]?)):=by
 have k:∀ p∈is.filterMap (bs[·]?),p∈bs:=fun p a=>by
  obtain⟨i,_,e⟩:=List.mem_filterMap.1 a;exact List.mem_of_getElem? e
 have g:∀ p∈v.filterMap (qs[·]?),p∈qs:=fun p a=>by
  obtain⟨i,_,e⟩:=List.mem_filterMap.1 a;exact List.mem_of_getElem? e
 refine⟨h.ta,fun p a=>h.b p (k p a),fun r m=>h.q r (g r m),fun p a r m=>h.e p (k p a) r (g r m),?_⟩;have z:=h.d;clear k g h
 induction is with
 | nil=>exact List.Pairwise.nil
 | cons i is ih =>
  have f:=List.nodup_cons.1 hn;rw[List.filterMap_cons];split
  ·exact ih f.2
  ·rename_i p e;refine List.pairwise_cons.2 ⟨fun q x e2=>?_,ih f.2⟩;obtain⟨j,y,e3⟩:=List.mem_filterMap.1 x
   have l:i≠j:=fun c=>f.1 (c▸y)
   obtain⟨li,u⟩:=List.getElem?_eq_some_iff.1 e;obtain⟨t,o⟩:=List.getElem?_eq_some_iff.1 e3;have s:=List.pairwise_iff_getElem.1 z;rcases Nat.lt_or_gt_of_ne l with c | c
   ·exact s i j li t c (by rw[u,o];exact e2)
   ·exact s j i t li c (by rw[u,o];exact e2.symm)
end
end
end Fo
end
section
namespace Fo
open Go.RowKit Go.Lib Pg Lim Gl Kv Bk Pw
attribute [local go_sem] Oper.semAt_some
set_option linter.unusedVariables false
set_option linter.unusedSimpArgs false
section
variable {n g B N n0 c0 z0 n1 c1 z1 n2 c2 z2 n3 c3 z3:Nat}{w:World}{K:Nat->Prop}{E:aD}{W:List aD}{rt tk un pe id x0 x1 x2 x3:Int}{jl bo:Bool}{a0 a1 a2 a3 a4 a5 ao:Option Addr}
theorem rscc{l:Fr}{P:Program}{fn:Func}(j k:Nat){T T2:TypeId}{g2:Nat}{u v:Value}(h:fn.results=#[.cell j T,.cell k T2])(hu:lk l j=some (.pointer (some ⟨g,0,none⟩)))(hv:lk l k=some (.pointer (some ⟨g2,0,none⟩)))(e:(loadVar T ⟨g,0,none⟩).run P w=.ok u w)(b:(loadVar T2 ⟨g2,0,none⟩).run P w=.ok v w)(a:Act)(r:Rd n [] l a):(results fn a.tmps).run P w=.ok (.tuple #[u,v]) w:=by
 have d:=r.gD hu;have c:=r.gD hv;simp at d c;simp[results,h,d,c,asAddr,e,b]
theorem bQ(w:World)(K:Nat->Prop):Nq w K 0 none 0 0 0:=⟨.inl rfl,.inl rfl,(mQ w 0).to⟩
structure StE(B:Nat)(w:World)(K:Nat->Prop)(g:Nat)(E:aD)(W:List aD)(n N:Nat)(rt tk:Int)(jl:Bool)(un:Int)(bo:Bool)(id x0 x2 x3:Int)(n0 n2 n3:Nat)(e:Ending)(w':World):Prop where
 ex:∃ b0 k0 d0 y0 b2 k2 d2 y2 b3 k3 d3 y3 K' n' N',e=.returned (.agg #[.int .u64 rt,.int .u64 tk,.slice b0 k0 d0,.bool jl,.int .u64 un,.bool bo,.int .u64 1,.slice none 0 0,.slice b2 k2 d2,.slice b3 k3 d3])/\Sx B w' K' g (aZ E id 0) W n' N'/\n'<=n+10/\N'<=N+10/\(∀ b,K' b->K b\/w.heap.size<=b)/\Chg K w w'/\Nq w' K' y0 b0 k0 d0 (x0)/\k0<=n0+1/\(k0=0\/w.heap.size<=y0)/\Nq w' K' y2 b2 k2 d2 (x2)/\k2<=n2+1/\(k2=0\/w.heap.size<=y2)/\Nq w' K' y3 b3 k3 d3 (x3)/\k3<=n3+1/\(k3=0\/w.heap.size<=y3)
theorem oM(h:Sx B w K g E W n N)(hid:0<=id/\id < 18446744073709551616)(Q0:Nk w K z0 a0 n0 c0 x0)(m0:n0<=100000)(R:Nk w K z1 a1 n1 c1 x1)(m1:n1<=100000)(J:Nk w K z2 a2 n2 c2 x2)(m2:n2<=100000)(Q:Nk w K z3 a3 n3 c3 x3)(m3:n3<=100000)(hn:n+40<=4000000000000000000)(hN:N+40<=100000000):Calls Tryz.prog 17 #[pg g,.int .u64 id,.agg #[.int .u64 rt,.int .u64 tk,.slice a0 n0 c0,.bool jl,.int .u64 un,.bool bo,.int .u64 pe,.slice a1 n1 c1,.slice a2 n2 c2,.slice a3 n3 c3]] w (StE B w K g E W n N rt tk jl un bo id x0 x2 x3 n0 n2 n3):=by
 have U:=vg h;refine aM (n:=16) Tryz.func17 rfl (by kernel_rfl) (by kernel_rfl) ?_
 refine aj (aA (ta 5 [.int .u64 rt,.int .u64 tk,.slice a0 n0 c0,.bool jl,.int .u64 un,.bool bo,.int .u64 pe,.slice a1 n1 c1,.slice a2 n2 c2,.slice a3 n3 c3] 39 (pg) ?_));intro v1 g2 s q B;replace U:=U.new s q B;clear s q B;refine ta 6 [.int .u64 0,.int .u64 0,.slice none 0 0,.bool false,.int .u64 0,.bool false,.int .u64 0,.slice none 0 0,.slice none 0 0,.slice none 0 0] 39 (pg) ?_
 intro v3 g4 p r B;replace U:=U.new p r B;clear p r B;refine ay (ah (aj (aA (tlr 7 [.int .u64 rt,.int .u64 tk,.slice a0 n0 c0,.bool jl,.int .u64 un,.bool bo,.int .u64 pe,.slice a1 n1 c1,.slice a2 n2 c2,.slice a3 n3 c3] (U.bk 1 rfl) 0 ?_))));refine tc 8 44 #[.agg #[.int .u64 rt,.int .u64 tk,.slice a0 n0 c0,.bool jl,.int .u64 un,.bool bo,.int .u64 pe,.slice a1 n1 c1,.slice a2 n2 c2,.slice a3 n3 c3]] (iV (Q0.op U.ta.km U.ta.cc).nat (by omega) (R.op U.ta.km U.ta.cc).nat (by omega) (J.op U.ta.km U.ta.cc).nat (by omega) (Q.op U.ta.km U.ta.cc).nat (by omega)) ?_
 rintro _ v9 ⟨f,e,c,P,l,m,o,ab,i,d,a,ad,k,j,b,V,rfl,I,y,mv5,H,x,X,M2,u,aa,G,v,Z,B⟩;refine⟨_,rfl,?_⟩;have A:=ne3 y U.ta.size;have M:=ne3 x U.ta.size;have D:=ne3 u U.ta.size;have z:=ne3 v U.ta.size;have L:=U.lt;replace U:=((((U.keep B).add L (ey U.ta.sx I y) y).add L (ey U.ta.sx H x) x).add L (ey U.ta.sx M2 u) u).add L (ey U.ta.sx G v) v;clear L B I y H x M2 u G v;refine ts (U.bk 1 rfl) 0 (.agg #[.int .u64 rt,.int .u64 tk,.slice f e c,.bool jl,.int .u64 un,.bool bo,.int .u64 pe,.slice l m o,.slice i d a,.slice k j b]) [.int .u64 rt,.int .u64 tk,.slice f e c,.bool jl,.int .u64 un,.bool bo,.int .u64 pe,.slice l m o,.slice i d a,.slice k j b] [.int .u64 rt,.int .u64 tk,.slice f e c,.bool jl,.int .u64 un,.bool bo,.int .u64 pe,.slice l m o,.slice i d a,.slice k j b] ?_
 intro v10 Y C;replace U:=U.put 1 rfl C Y (by decide);clear Y C;refine ay (ah (aj (aA (t 9 (.agg #[.slice none 0 0]) ?_))));refine t 10 (pq g2 6) ?_
 refine ts (U.bk 1 rfl) 6 (.int .u64 1) [.int .u64 1] [.int .u64 rt,.int .u64 tk,.slice f e c,.bool jl,.int .u64 un,.bool bo,.int .u64 1,.slice l m o,.slice i d a,.slice k j b] ?_
 intro v11 Y C;replace U:=U.put 1 rfl C Y (by decide);clear Y C;refine t 11 (pq g2 7) ?_
 refine ts (U.bk 1 rfl) 7 (.agg #[.slice none 0 0]) [.slice none 0 0] [.int .u64 rt,.int .u64 tk,.slice f e c,.bool jl,.int .u64 un,.bool bo,.int .u64 1,.slice none 0 0,.slice i d a,.slice k j b] ?_
 intro v12 Y C;replace U:=U.put 1 rfl C Y (by decide);clear Y C;refine ay (ah (aj (aA (t 12 (pg g) ?_))));refine t 13 (.int .u64 id) ?_
 refine tc 14 45 #[pg g,.int .u64 id,.int .u64 0] (kD U.ta.sx hid (by omega) (by omega)) ?_
 rintro _ O ⟨rfl,ae,S,F,hC⟩;refine⟨_,rfl,?_⟩;replace U:=U.op S F hC;clear S F hC;refine ay (ah (aT [(5,pg g2),(6,pg g4)] (by kernel_rfl) ?_));refine aj (aA (tlr 15 [.int .u64 rt,.int .u64 tk,.slice f e c,.bool jl,.int .u64 un,.bool bo,.int .u64 1,.slice none 0 0,.slice i d a,.slice k j b] (U.bk 1 rfl) 0 ?_));refine ts (U.bk 0 rfl) 0 (.agg #[.int .u64 rt,.int .u64 tk,.slice f e c,.bool jl,.int .u64 un,.bool bo,.int .u64 1,.slice none 0 0,.slice i d a,.slice k j b]) [.int .u64 rt,.int .u64 tk,.slice f e c,.bool jl,.int .u64 un,.bool bo,.int .u64 1,.slice none 0 0,.slice i d a,.slice k j b] [.int .u64 rt,.int .u64 tk,.slice f e c,.bool jl,.int .u64 un,.bool bo,.int .u64 1,.slice none 0 0,.slice i d a,.slice k j b] ?_
 intro ac Y C;replace U:=U.put 0 rfl C Y (by decide);clear Y C;refine ay (ah (aO (aQ (.agg #[.int .u64 rt,.int .u64 tk,.slice f e c,.bool jl,.int .u64 un,.bool bo,.int .u64 1,.slice none 0 0,.slice i d a,.slice k j b]) (rsc 6 (T:=39) (by kernel_rfl) (by kernel_rfl) (lr (U.bk 0 rfl) 0)) ?_)));exact⟨_,_,_,_,_,_,_,_,_,_,_,_,_,_,_,rfl,U.ta.sx,by omega,by omega,U.ta.km,U.ta.cc,(U.nq 3 rfl),by omega,A,(U.nq 1 rfl),by omega,D,(U.nq 0 rfl),by omega,z⟩
theorem zt{p:Int}(h:Sx B w K g E W n N)(hid:0<=id/\id < 18446744073709551616)(f:Nk w K z0 a0 n0 c0 x0)(m0:n0<=100000)(e:Nk w K z1 a1 n1 c1 x1)(m1:n1<=100000)(hn:n+40<=4000000000000000000)(q:N+40<=100000000):Calls Tryz.prog 33 #[pg g,.int .u64 id,.agg #[.slice a0 n0 c0,.int .u64 p,.slice a1 n1 c1]] w (SxF B w K g (letE E id p) W n N (.tuple #[])):=by
 have A:=h.at
 refine aM (n:=11) Tryz.func33 rfl (by kernel_rfl) (by kernel_rfl) ?_
 refine aj (aA (ta 5 [.slice a0 n0 c0,.int .u64 p,.slice a1 n1 c1] 54 (pg) ?_));intro v1 g2 c b B;have l:=Nat.le_trans A.size b;have a:=A.new b;have i:=ne1 f.lt b;have j:=ne1 e.lt b;replace A:=A.keep B;replace f:=f.keep B;replace e:=e.keep B;clear B;refine ay (ah (aA (t 6 (pg g) ?_)));refine t 7 (.int .u64 id) ?_
 refine t 8 (pq g2 1) ?_
 refine tl 9 (.int .u64 p) c 1 ?_
 refine tc 10 57 #[pg g,.int .u64 id,.int .u64 p] (vH A.sx hid (by omega) (by omega)) ?_
 rintro _ o ⟨rfl,s,r,u,S,m,k,d,hC⟩;refine⟨_,rfl,?_⟩;replace f:=f.op d hC;replace e:=e.op d hC;replace a:=opX c a d hC;replace c:=a.1;replace a:=a.2;replace A:=A.op S d hC;clear S d hC;refine ay (iT (.tuple #[]) (rs0 (by kernel_rfl)) ?_);exact⟨rfl,_,_,_,A.sx,by omega,by omega,A.km,A.cc⟩
structure HoE(B:Nat)(w:World)(K:Nat->Prop)(g:Nat)(E:aD)(W:List aD)(n N:Nat)(tk pe id x0 x4:Int)(n0 n4:Nat)(e:Ending)(w':World):Prop where
 ex:∃ b0 k0 d0 y0 b1 k1 d1 y1 K' n' N',e=.returned (.agg #[.slice b0 k0 d0,.int .u64 ((pe - 1) % 18446744073709551616),.slice b1 k1 d1])/\Sx B w' K' g (aZ E id ((pe - 1) % 18446744073709551616)) W n' N'/\n'<=n+10/\N'<=N+10/\(∀ b,K' b->K b\/w.heap.size<=b)/\Chg K w w'/\Nq w' K' y0 b0 k0 d0 (x4)/\k0<=n4+1/\(k0=0\/w.heap.size<=y0)/\Nq w' K' y1 b1 k1 d1 (x4 * (tk * U36) / x0)/\k1<=n0+n4+40/\(k1=0\/w.heap.size<=y1)
theorem ef{s:Int}{n4 c4 z4:Nat}{x4:Int}{m r z5:Nat}{J:Int}(h:Sx B w K g E W n N)(hid:0<=id/\id < 18446744073709551616)(u:0<=tk/\tk < 18446744073709551616)(L:Nk w K z0 a0 n0 c0 x0)(m0:n0<=100000)(R:Nk w K z1 a1 n1 c1 x1)(m1:n1<=100000)(O:Nk w K z2 a2 n2 c2 x2)(m2:n2<=100000)(Q:Nk w K z3 a3 n3 c3 x3)(m3:n3<=100000)(F:Nk w K z4 a4 n4 c4 x4)(m4:n4<=100000)(V:Nk w K z5 a5 m r J)(m5:m<=100000)(hn:n+40<=4000000000000000000)(X:N+40<=100000000):Calls Tryz.prog 19 #[pg g,.int .u64 id,.agg #[.int .u64 rt,.int .u64 tk,.slice a0 n0 c0,.bool jl,.int .u64 un,.bool bo,.int .u64 pe,.slice a1 n1 c1,.slice a2 n2 c2,.slice a3 n3 c3],.agg #[.slice a4 n4 c4,.int .u64 s,.slice a5 m r]] w (HoE B w K g E W n N tk pe id x0 x4 n0 n4):=by
 have U:=vg h;refine aM (n:=29) Tryz.func19 rfl (by kernel_rfl) (by kernel_rfl) ?_
 refine aj (aA (ta 6 [.int .u64 rt,.int .u64 tk,.slice a0 n0 c0,.bool jl,.int .u64 un,.bool bo,.int .u64 pe,.slice a1 n1 c1,.slice a2 n2 c2,.slice a3 n3 c3] 39 (pg) ?_));intro v1 g2 p k B;replace U:=U.new p k B;clear p k B;refine ta 7 [.slice a4 n4 c4,.int .u64 s,.slice a5 m r] 54 (pg) ?_
 intro v3 g4 j o B;replace U:=U.new j o B;clear j o B;refine ta 8 [.slice none 0 0,.int .u64 0,.slice none 0 0] 54 (pg) ?_
 intro v5 g6 q l B;replace U:=U.new q l B;clear q l B;refine ay (ah (aj (aA (t 10 (pq g2 6) ?_))));refine tl 11 (.int .u64 pe) (U.bk 2 rfl) 6 ?_
 refine tq 12 (.int .u64 (IntKind.u64.wrap (pe - 1))) (.int .u64 ((pe - 1) % 18446744073709551616)) (congrArg (Value.int .u64) (IntKind.wrap_u64 _)) ?_
 refine t 9 (.int .u64 ((pe - 1) % 18446744073709551616)) ?_
 refine ay (ah (aj (aA (t 13 (pg g) ?_))));refine t 14 (.int .u64 id) ?_
 refine t 15 (.int .u64 ((pe - 1) % 18446744073709551616)) ?_
 refine tc 16 45 #[pg g,.int .u64 id,.int .u64 ((pe - 1) % 18446744073709551616)] (kD U.ta.sx hid (by omega) (by omega)) ?_
 rintro _ P ⟨rfl,Z,S,D,hC⟩;refine⟨_,rfl,?_⟩;replace U:=U.op S D hC;clear S D hC;refine ay (ah (aT [(6,pg g2),(7,pg g4),(8,pg g6),(9,.int .u64 ((pe - 1) % 18446744073709551616))] (by kernel_rfl) ?_));refine aj ?_
 replace U:=U.drew;refine bX (fun A=>Blk A g4 [.slice a4 n4 c4,.int .u64 s,.slice a5 m r] 54/\Blk A g2 [.int .u64 rt,.int .u64 tk,.slice a0 n0 c0,.bool jl,.int .u64 un,.bool bo,.int .u64 pe,.slice a1 n1 c1,.slice a2 n2 c2,.slice a3 n3 c3] 39) (fun _=>false) ⟨(U.bk 1 rfl),(U.bk 2 rfl)⟩ ?_
 refine z 0 17 (pg g4) ?_
 refine zlr 1 18 [.slice a4 n4 c4] (fun _ h=>h.1) 0 ?_
 refine z 3 20 (.int .u64 ((pe - 1) % 18446744073709551616)) ?_
 refine z 4 21 (pq g2 1) ?_
 refine zl 5 22 (.int .u64 tk) (fun _ h=>h.2) 1 ?_
 refine z 6 23 (pq g2 2) ?_
 refine zlr 7 24 [.slice a0 n0 c0] (fun _ h=>h.2) 2 ?_
 refine z 8 25 (pg g4) ?_
 refine zlr 9 26 [.slice a4 n4 c4] (fun _ h=>h.1) 0 ?_
 refine zc 2 19 47 #[.agg #[.slice a4 n4 c4]] (jA (F.op U.ta.km U.ta.cc).nat (by omega)) ?_
 rintro _ v10 ⟨f,e,d,H,rfl,M,h,G,B⟩;have v:=ne3 h U.ta.size;replace U:=U.num M h B;clear M h B;refine⟨_,rfl,⟨(U.bk 1 rfl),(U.bk 2 rfl)⟩,?_⟩;refine zc 10 27 48 #[.int .u64 tk,.agg #[.slice a0 n0 c0],.agg #[.slice a4 n4 c4]] (wc (L.op U.ta.km U.ta.cc).nat (by omega) (F.op U.ta.km U.ta.cc).nat (by omega) u) ?_
 rintro _ v12 ⟨c,b,a,y,rfl,M,h,x,B⟩;have i:=ne3 h U.ta.size;replace U:=U.num M h B;clear M h B;refine⟨_,rfl,⟨(U.bk 1 rfl),(U.bk 2 rfl)⟩,?_⟩;refine zr 11 28 (.agg #[.slice f e d,.int .u64 ((pe - 1) % 18446744073709551616),.slice c b a]) (by intro _ _;kernel_rfl) ?_
 refine zs 12 (U.bk 0 rfl) 0 (.agg #[.slice f e d,.int .u64 ((pe - 1) % 18446744073709551616),.slice c b a]) [.slice f e d,.int .u64 ((pe - 1) % 18446744073709551616),.slice c b a] [.slice f e d,.int .u64 ((pe - 1) % 18446744073709551616),.slice c b a] ?_
 intro I Y C;replace U:=U.put 0 rfl C Y (by decide);clear Y C;refine⟨⟨(U.bk 1 rfl),(U.bk 2 rfl)⟩,?_⟩;refine bh (ah (aT [(8,pg g6)] (by kernel_rfl) ?_));refine aO (aQ (.agg #[.slice f e d,.int .u64 ((pe - 1) % 18446744073709551616),.slice c b a]) (rsc 8 (T:=54) (by kernel_rfl) (by kernel_rfl) (lr (U.bk 0 rfl) 0)) ?_);exact⟨_,_,_,_,_,_,_,_,_,_,_,rfl,U.ta.sx,by omega,by omega,U.ta.km,U.ta.cc,(U.nq 1 rfl),by omega,v,(U.nq 0 rfl),by omega,i⟩
def nP(E:aD)(id p b a:Int):aD:=aZ (put E (Ky.mk 8 id p) (cv b a)) id p
structure CuE(B:Nat)(w:World)(K:Nat->Prop)(g:Nat)(E:aD)(W:List aD)(n N:Nat)(rt tk:Int)(jl:Bool)(un:Int)(bo:Bool)(pe id af x0 x1 x2 x3:Int)(n0 n1 n2 n3:Nat)(e:Ending)(w':World):Prop where
 ex:∃ b0 k0 d0 y0 b1 k1 d1 y1 b2 k2 d2 y2 b3 k3 d3 y3 K' n' N',e=.returned (.agg #[.int .u64 rt,.int .u64 af,.slice b0 k0 d0,.bool jl,.int .u64 un,.bool bo,.int .u64 pe,.slice b1 k1 d1,.slice b2 k2 d2,.slice b3 k3 d3])/\Sx B w' K' g (nP E id ((pe - 1) % 18446744073709551616) tk af) W n' N'/\n'<=n+10/\N'<=N+10/\(∀ b,K' b->K b\/w.heap.size<=b)/\Chg K w w'/\Nq w' K' y0 b0 k0 d0 (x0)/\k0<=n0+1/\(k0=0\/w.heap.size<=y0)/\Nq w' K' y1 b1 k1 d1 (x1)/\k1<=n1+1/\(k1=0\/w.heap.size<=y1)/\Nq w' K' y2 b2 k2 d2 (x2)/\k2<=n2+1/\(k2=0\/w.heap.size<=y2)/\Nq w' K' y3 b3 k3 d3 (x3)/\k3<=n3+1/\(k3=0\/w.heap.size<=y3)
theorem uP{af:Int}(h:Sx B w K g E W n N)(hid:0<=id/\id < 18446744073709551616)(y:Nk w K z0 a0 n0 c0 x0)(m0:n0<=100000)(v:Nk w K z1 a1 n1 c1 x1)(m1:n1<=100000)(u:Nk w K z2 a2 n2 c2 x2)(m2:n2<=100000)(x:Nk w K z3 a3 n3 c3 x3)(m3:n3<=100000)(hn:n+40<=4000000000000000000)(hN:N+40<=100000000):Calls Tryz.prog 34 #[pg g,.int .u64 id,.agg #[.int .u64 rt,.int .u64 tk,.slice a0 n0 c0,.bool jl,.int .u64 un,.bool bo,.int .u64 pe,.slice a1 n1 c1,.slice a2 n2 c2,.slice a3 n3 c3],.int .u64 af] w (CuE B w K g E W n N rt tk jl un bo pe id af x0 x1 x2 x3 n0 n1 n2 n3):=by
 have A:=h.at
 refine aM (n:=32) Tryz.func34 rfl (by kernel_rfl) (by kernel_rfl) ?_
 refine aj (aA (ta 6 [.int .u64 rt,.int .u64 tk,.slice a0 n0 c0,.bool jl,.int .u64 un,.bool bo,.int .u64 pe,.slice a1 n1 c1,.slice a2 n2 c2,.slice a3 n3 c3] 39 (pg) ?_));intro v1 g2 a V B;have zg2:=Nat.le_trans A.size V;have c:=A.new V;have aa:=ne1 y.lt V;have ae:=ne1 v.lt V;have ai:=ne1 u.lt V;have ab:=ne1 x.lt V;replace A:=A.keep B;replace y:=y.keep B;replace v:=v.keep B;replace u:=u.keep B;replace x:=x.keep B;clear B;have lXg2:=a.lt;refine ta 8 [.int .u64 0,.int .u64 0,.slice none 0 0,.bool false,.int .u64 0,.bool false,.int .u64 0,.slice none 0 0,.slice none 0 0,.slice none 0 0] 39 (pg) ?_
 intro v3 g4 b X B;have zg4:=Nat.le_trans A.size X;have d:=A.new X;have av:=ne1 y.lt X;have ar:=ne1 v.lt X;have ao:=ne1 u.lt X;have aq:=ne1 x.lt X;replace A:=A.keep B;replace y:=y.keep B;replace v:=v.keep B;replace u:=u.keep B;replace x:=x.keep B;replace a:=a.keep B;clear B;refine ay (ah (aj (aA (t 10 (pq g2 6) ?_))));refine tl 11 (.int .u64 pe) a 6 ?_
 refine tq 12 (.int .u64 (IntKind.u64.wrap (pe - 1))) (.int .u64 ((pe - 1) % 18446744073709551616)) (congrArg (Value.int .u64) (IntKind.wrap_u64 _)) ?_
 refine t 9 (.int .u64 ((pe - 1) % 18446744073709551616)) ?_
 refine ay (ah (aj ?_));replace A:=A.drew;replace y:=y.drew;replace v:=v.drew;replace u:=u.drew;replace x:=x.drew;replace a:=a.drew;replace b:=b.drew;refine bX (fun w'=>Blk w' g2 [.int .u64 rt,.int .u64 tk,.slice a0 n0 c0,.bool jl,.int .u64 un,.bool bo,.int .u64 pe,.slice a1 n1 c1,.slice a2 n2 c2,.slice a3 n3 c3] 39) (fun _=>false) a ?_
 refine z 0 13 (pg g) ?_
 refine z 1 14 (.int .u64 id) ?_
 refine z 2 15 (.int .u64 ((pe - 1) % 18446744073709551616)) ?_
 refine z 4 17 (pq g2 1) ?_
 refine zl 5 18 (.int .u64 tk) (fun _ h=>h) 1 ?_
 refine z 6 19 (.int .u64 af) ?_
 refine zr 7 20 (.agg #[.int .u64 tk,.int .u64 af]) (by intro _ _;kernel_rfl) ?_
 refine zc 3 16 65 #[.int .i64 8,.int .u64 id,.int .u64 ((pe - 1) % 18446744073709551616)] (xa hid (by decide)) ?_
 rintro _ v7 ⟨kv6,rfl,U5,B⟩;replace A:=A.keep B;replace y:=y.keep B;replace v:=v.keep B;replace u:=u.keep B;replace x:=x.keep B;replace a:=a.keep B;replace b:=b.keep B;clear B;refine⟨_,rfl,a,?_⟩;refine zc 8 21 66 #[.agg #[.int .u64 tk,.int .u64 af]] (DN) ?_
 rintro _ v10 ⟨pv9,rfl,U8,B⟩;replace A:=A.keep B;replace y:=y.keep B;replace v:=v.keep B;replace u:=u.keep B;replace x:=x.keep B;replace a:=a.keep B;replace b:=b.keep B;replace U5:=eQ U5 B;clear B;refine⟨_,rfl,a,?_⟩;refine zc 9 22 64 #[pg g,kv6,pv9] (qset A.sx U5 (mm id ((pe - 1) % 18446744073709551616)) U8 (Nat.le_trans (yI _ _) (by decide)) (by omega) (by omega)) ?_
 rintro _ v12 ⟨rfl,K11,S,J,hC⟩;replace y:=y.op J hC;replace v:=v.op J hC;replace u:=u.op J hC;replace x:=x.op J hC;replace c:=opX a c J hC;replace a:=c.1;replace c:=c.2;replace d:=opX b d J hC;replace b:=d.1;replace d:=d.2;replace U5:=A.byu U5 hC;replace U8:=A.byu U8 hC;replace A:=A.op S J hC;clear S J hC;clear U5;clear U8;refine⟨_,rfl,a,?_⟩;refine bh (ah (aT [(0,pg g),(1,.int .u64 id),(3,.int .u64 af),(6,pg g2),(8,pg g4),(9,.int .u64 ((pe - 1) % 18446744073709551616))] (by kernel_rfl) ?_));refine aj (aA (t 23 (pg g) ?_));refine t 24 (.int .u64 id) ?_
 refine t 25 (.int .u64 ((pe - 1) % 18446744073709551616)) ?_
 refine tc 26 45 #[pg g,.int .u64 id,.int .u64 ((pe - 1) % 18446744073709551616)] (kD A.sx hid (by omega) (by omega)) ?_
 rintro _ v14 ⟨rfl,K13,S,J,hC⟩;refine⟨_,rfl,?_⟩;replace y:=y.op J hC;replace v:=v.op J hC;replace u:=u.op J hC;replace x:=x.op J hC;replace c:=opX a c J hC;replace a:=c.1;replace c:=c.2;replace d:=opX b d J hC;replace b:=d.1;replace d:=d.2;replace A:=A.op S J hC;clear S J hC;refine ay (ah (aj (aA (tlr 27 [.int .u64 rt,.int .u64 tk,.slice a0 n0 c0,.bool jl,.int .u64 un,.bool bo,.int .u64 pe,.slice a1 n1 c1,.slice a2 n2 c2,.slice a3 n3 c3] a 0 ?_))));refine tc 28 44 #[.agg #[.int .u64 rt,.int .u64 tk,.slice a0 n0 c0,.bool jl,.int .u64 un,.bool bo,.int .u64 pe,.slice a1 n1 c1,.slice a2 n2 c2,.slice a3 n3 c3]] (iV y.nat (by omega) v.nat (by omega) u.nat (by omega) x.nat (by omega)) ?_
 rintro _ v19 ⟨r,q,m,zv15,l,f,e,zv16,p,o,i,zv17,k,s,j,zv18,rfl,al,R,mv15,am,M,mv16,ak,I,mv17,an,O,mv18,B⟩;refine⟨_,rfl,?_⟩;have Q:=ne2 R a.lt;have ac:=ne2 R b.lt;have au:=ne3 R A.size;have G:=ey A.sx al R;clear al R;have P:=ne2 M a.lt;have Z:=ne2 M b.lt;have ap:=ne3 M A.size;have F:=ey A.sx am M;clear am M;have L:=ne2 I a.lt;have ad:=ne2 I b.lt;have aw:=ne3 I A.size;have D:=ey A.sx ak I;clear ak I;have U:=ne2 O a.lt;have ag:=ne2 O b.lt;have ax:=ne3 O A.size;have H:=ey A.sx an O;clear an O;replace A:=A.keep B;replace y:=y.keep B;replace v:=v.keep B;replace u:=u.keep B;replace x:=x.keep B;replace a:=a.keep B;replace b:=b.keep B;clear B;refine ts a 0 (.agg #[.int .u64 rt,.int .u64 tk,.slice r q m,.bool jl,.int .u64 un,.bool bo,.int .u64 pe,.slice l f e,.slice p o i,.slice k s j]) [.int .u64 rt,.int .u64 tk,.slice r q m,.bool jl,.int .u64 un,.bool bo,.int .u64 pe,.slice l f e,.slice p o i,.slice k s j] [.int .u64 rt,.int .u64 tk,.slice r q m,.bool jl,.int .u64 un,.bool bo,.int .u64 pe,.slice l f e,.slice p o i,.slice k s j] ?_
 intro v20 Y C;replace A:=Bk.At.cell A a C zg2 c (by decide);replace y:=y.cell C aa;replace v:=v.cell C ae;replace u:=u.cell C ai;replace x:=x.cell C ab;replace b:=b.chg C (show g4≠g2 by omega);replace G:=G.cell C Q;replace F:=F.cell C P;replace D:=D.cell C L;replace H:=H.cell C U;clear C a;have a:=Y;clear Y;refine ay (ah (aj (aA (t 29 (.int .u64 af) ?_))));refine t 30 (pq g2 1) ?_
 refine ts a 1 (.int .u64 af) [.int .u64 af] [.int .u64 rt,.int .u64 af,.slice r q m,.bool jl,.int .u64 un,.bool bo,.int .u64 pe,.slice l f e,.slice p o i,.slice k s j] ?_
 intro v21 Y C;replace A:=Bk.At.cell A a C zg2 c (by decide);replace y:=y.cell C aa;replace v:=v.cell C ae;replace u:=u.cell C ai;replace x:=x.cell C ab;replace b:=b.chg C (show g4≠g2 by omega);replace G:=G.cell C Q;replace F:=F.cell C P;replace D:=D.cell C L;replace H:=H.cell C U;clear C a;have a:=Y;clear Y;refine ay (ah (aj (aA (tlr 31 [.int .u64 rt,.int .u64 af,.slice r q m,.bool jl,.int .u64 un,.bool bo,.int .u64 pe,.slice l f e,.slice p o i,.slice k s j] a 0 ?_))));refine ts b 0 (.agg #[.int .u64 rt,.int .u64 af,.slice r q m,.bool jl,.int .u64 un,.bool bo,.int .u64 pe,.slice l f e,.slice p o i,.slice k s j]) [.int .u64 rt,.int .u64 af,.slice r q m,.bool jl,.int .u64 un,.bool bo,.int .u64 pe,.slice l f e,.slice p o i,.slice k s j] [.int .u64 rt,.int .u64 af,.slice r q m,.bool jl,.int .u64 un,.bool bo,.int .u64 pe,.slice l f e,.slice p o i,.slice k s j] ?_
 intro v22 Y C;replace A:=Bk.At.cell A b C zg4 d (by decide);replace y:=y.cell C av;replace v:=v.cell C ar;replace u:=u.cell C ao;replace x:=x.cell C aq;replace a:=a.chg C (show g2≠g4 by omega);replace G:=G.cell C ac;replace F:=F.cell C Z;replace D:=D.cell C ad;replace H:=H.cell C ag;clear C b;have b:=Y;clear Y;refine ay (ah (aO (aQ (.agg #[.int .u64 rt,.int .u64 af,.slice r q m,.bool jl,.int .u64 un,.bool bo,.int .u64 pe,.slice l f e,.slice p o i,.slice k s j]) (rsc 8 (T:=39) (by kernel_rfl) (by kernel_rfl) (lr b 0)) ?_)));exact⟨_,_,_,_,_,_,_,_,_,_,_,_,_,_,_,_,_,_,_,rfl,A.sx,by omega,by omega,A.km,A.cc,G,by omega,au,F,by omega,ap,D,by omega,aw,H,by omega,ax⟩
def dQ(E:aD)(id pe tk cur:Int):aD:=letE (ll E id pe (hX (got E (Ky.mk 7 id ((pe - 1) % 18446744073709551616))) 0+cur / tk) 1) id ((pe - 1) % 18446744073709551616)
structure ClE(B:Nat)(w:World)(K:Nat->Prop)(g:Nat)(E:aD)(W:List aD)(n N:Nat)(rt tk:Int)(jl:Bool)(un:Int)(bo:Bool)(pe id x0 x1 x2 x3:Int)(n0 n1 n2 n3:Nat)(e:Ending)(w':World):Prop where
 ex:∃ b0 k0 d0 y0 b1 k1 d1 y1 b2 k2 d2 y2 b3 k3 d3 y3 K' n' N',e=.returned (.tuple #[.agg #[.int .u64 rt,.int .u64 tk,.slice b0 k0 d0,.bool jl,.int .u64 un,.bool bo,.int .u64 ((pe+1) % 18446744073709551616),.slice none 0 0,.slice b2 k2 d2,.slice b3 k3 d3],.agg #[.slice b1 k1 d1]])/\Sx B w' K' g (dQ E id pe tk x1) W n' N'/\n'<=n+20/\N'<=N+20/\(∀ b,K' b->K b\/w.heap.size<=b)/\Chg K w w'/\Nq w' K' y0 b0 k0 d0 (x0)/\k0<=n0+1/\(k0=0\/w.heap.size<=y0)/\Nq w' K' y1 b1 k1 d1 ((if tk=0 then x1 else 0))/\k1<=n1+1/\(k1=0\/w.heap.size<=y1)/\Nq w' K' y2 b2 k2 d2 ((if tk=0 then fW x2 x1 else x2))/\k2<=n2+1/\(k2=0\/w.heap.size<=y2)/\Nq w' K' y3 b3 k3 d3 (x3)/\k3<=n3+1/\(k3=0\/w.heap.size<=y3)
theorem Nq.eqv{z c:Nat}{x y:Int}(h:Nq w K z ao n c x)(e:x=y):Nq w K z ao n c y:=e▸h
theorem ga(h:Sx B w K g E W n N)(hid:0<=id/\id < 18446744073709551616)(htk:0<=tk/\tk < 18446744073709551616)(Q0:Nk w K z0 a0 n0 c0 x0)(m0:n0<=100000)(Q1:Nk w K z1 a1 n1 c1 x1)(m1:n1<=100000)(Q2:Nk w K z2 a2 n2 c2 x2)(m2:n2<=100000)(Q3:Nk w K z3 a3 n3 c3 x3)(m3:n3<=100000)(hn:n+60<=4000000000000000000)(hN:N+60<=100000000):Calls Tryz.prog 22 #[pg g,.int .u64 id,.agg #[.int .u64 rt,.int .u64 tk,.slice a0 n0 c0,.bool jl,.int .u64 un,.bool bo,.int .u64 pe,.slice a1 n1 c1,.slice a2 n2 c2,.slice a3 n3 c3]] w (ClE B w K g E W n N rt tk jl un bo pe id x0 x1 x2 x3 n0 n1 n2 n3):=by
 have U:=vg h;refine aM (n:=60) Tryz.func22 rfl (by kernel_rfl) (by kernel_rfl) ?_
 refine aj (aA (ta 5 [.int .u64 rt,.int .u64 tk,.slice a0 n0 c0,.bool jl,.int .u64 un,.bool bo,.int .u64 pe,.slice a1 n1 c1,.slice a2 n2 c2,.slice a3 n3 c3] 39 (pg) ?_));intro v1 g2 ag Z B;replace U:=U.new ag Z B;clear ag Z B;refine ta 6 [.int .u64 0,.int .u64 0,.slice none 0 0,.bool false,.int .u64 0,.bool false,.int .u64 0,.slice none 0 0,.slice none 0 0,.slice none 0 0] 39 (pg) ?_
 intro v3 g4 X af B;replace U:=U.new X af B;clear X af B;refine ta 7 [.slice none 0 0] 32 (pg) ?_
 intro v5 g6 ai aa B;replace U:=U.new ai aa B;clear ai aa B;refine ay (ah (aj (aA (tlr 12 [.int .u64 rt,.int .u64 tk,.slice a0 n0 c0,.bool jl,.int .u64 un,.bool bo,.int .u64 pe,.slice a1 n1 c1,.slice a2 n2 c2,.slice a3 n3 c3] (U.bk 2 rfl) 0 ?_))));refine tc 13 44 #[.agg #[.int .u64 rt,.int .u64 tk,.slice a0 n0 c0,.bool jl,.int .u64 un,.bool bo,.int .u64 pe,.slice a1 n1 c1,.slice a2 n2 c2,.slice a3 n3 c3]] (iV (Q0.op U.ta.km U.ta.cc).nat (by omega) (Q1.op U.ta.km U.ta.cc).nat (by omega) (Q2.op U.ta.km U.ta.cc).nat (by omega) (Q3.op U.ta.km U.ta.cc).nat (by omega)) ?_
 rintro _ v11 ⟨f,e,d,zv7,k,i,j,zv8,q,p,r,zv9,b,a,c,zv10,rfl,M0,h0,mv7,M1,h1,mv8,M2,h2,mv9,M3,h3,mv10,B⟩;refine⟨_,rfl,?_⟩;have ac:=ne3 h0 U.ta.size;have fv8:=ne3 h1 U.ta.size;have fv9:=ne3 h2 U.ta.size;have O:=ne3 h3 U.ta.size;have L:=U.lt;replace U:=((((U.keep B).add L (ey U.ta.sx M0 h0) h0).add L (ey U.ta.sx M1 h1) h1).add L (ey U.ta.sx M2 h2) h2).add L (ey U.ta.sx M3 h3) h3;clear L B M0 h0 M1 h1 M2 h2 M3 h3;refine ts (U.bk 2 rfl) 0 (.agg #[.int .u64 rt,.int .u64 tk,.slice f e d,.bool jl,.int .u64 un,.bool bo,.int .u64 pe,.slice k i j,.slice q p r,.slice b a c]) [.int .u64 rt,.int .u64 tk,.slice f e d,.bool jl,.int .u64 un,.bool bo,.int .u64 pe,.slice k i j,.slice q p r,.slice b a c] [.int .u64 rt,.int .u64 tk,.slice f e d,.bool jl,.int .u64 un,.bool bo,.int .u64 pe,.slice k i j,.slice q p r,.slice b a c] ?_
 intro v12 Y C;replace U:=U.put 2 rfl C Y (by decide);clear Y C;refine ay (ah (aj (aA (t 14 (pq g2 6) ?_))));refine tl 15 (.int .u64 pe) (U.bk 2 rfl) 6 ?_
 refine tq 16 (.int .u64 (IntKind.u64.wrap (pe - 1))) (.int .u64 ((pe - 1) % 18446744073709551616)) (congrArg (Value.int .u64) (IntKind.wrap_u64 _)) ?_
 refine t 8 (.int .u64 ((pe - 1) % 18446744073709551616)) ?_
 refine ay (ah (aT [(0,pg g),(1,.int .u64 id),(5,pg g2),(6,pg g4),(7,pg g6),(8,.int .u64 ((pe - 1) % 18446744073709551616))] (by kernel_rfl) ?_));refine aj (aA (t 18 (pq g2 7) ?_));refine tlr 19 [.slice k i j] (U.bk 2 rfl) 7 ?_
 refine t 20 (pq g2 1) ?_
 refine tl 21 (.int .u64 tk) (U.bk 2 rfl) 1 ?_
 refine tc 22 30 #[.agg #[.slice k i j],.int .u64 tk] (DW (U.nq 2 rfl).nat (by omega) htk) ?_
 rintro _ v14 ⟨u,v,s,zq13,rfl,M,h,mq13,B⟩;refine⟨_,rfl,?_⟩;have fq13:=ne3 h U.ta.size;replace U:=U.num M h B;clear M h B;refine t 17 (.tuple #[.agg #[.slice u v s],.int .i64 (dvZ tk)]) ?_
 refine t 23 (.agg #[.slice u v s]) ?_
 refine t 24 (.int .i64 (dvZ tk)) ?_
 refine ta 9 [.slice none 0 0] 32 (pg) ?_
 intro v15 g16 F R B;replace U:=U.new F R B;clear F R B;refine ts (U.bk 0 rfl) 0 (.agg #[.slice u v s]) [.slice u v s] [.slice u v s] ?_
 intro v17 Y C;replace U:=U.put 0 rfl C Y (by decide);clear Y C;refine t 10 (.int .i64 (dvZ tk)) ?_
 refine ay (ah (aj ?_));replace U:=U.drew;refine bX (fun D=>Blk D g2 [.int .u64 rt,.int .u64 tk,.slice f e d,.bool jl,.int .u64 un,.bool bo,.int .u64 pe,.slice k i j,.slice q p r,.slice b a c] 39/\Blk D g16 [.slice u v s] 32) (fun _=>false) ⟨(U.bk 3 rfl),(U.bk 0 rfl)⟩ ?_
 refine z 0 25 (pg g) ?_
 refine z 1 26 (.int .u64 id) ?_
 refine z 2 27 (pq g2 6) ?_
 refine zl 3 28 (.int .u64 pe) (fun _ h=>h.1) 6 ?_
 refine z 4 29 (pg g) ?_
 refine z 5 30 (.int .u64 id) ?_
 refine z 6 31 (.int .u64 ((pe - 1) % 18446744073709551616)) ?_
 refine zlr 8 33 [.slice u v s] (fun _ h=>h.2) 0 ?_
 refine zc 7 32 49 #[pg g,.int .u64 id,.int .u64 ((pe - 1) % 18446744073709551616)] (wX U.ta.sx hid (by omega) (by omega)) ?_
 rintro _ v20 ⟨V,ae,ad,rfl,zr18,K19,S,G,hC,Q,mr18,h⟩;have L:=U.lt;replace U:=(U.op S G hC).add L Q h;clear L S G hC Q h;refine⟨_,rfl,⟨(U.bk 3 rfl),(U.bk 0 rfl)⟩,?_⟩;refine zc 9 34 27 #[.agg #[.slice V ae ad],.agg #[.slice u v s]] (sC (U.nq 0 rfl).nat (by omega) (U.nq 1 rfl).nat (by omega)) ?_
 rintro _ v22 ⟨P,J,A,zq21,rfl,M,h,mq21,B⟩;have fq21:=ne3 h U.ta.size;replace U:=U.num M h B;clear M h B;refine⟨_,rfl,⟨(U.bk 3 rfl),(U.bk 0 rfl)⟩,?_⟩;refine zr 10 35 (.agg #[.slice P J A,.int .u64 1]) (by intro _ _;kernel_rfl) ?_
 refine zc 11 36 56 #[pg g,.int .u64 id,.int .u64 pe,.agg #[.slice P J A,.int .u64 1]] (oQ U.ta.sx hid (U.nq 0 rfl).nk (by omega) (by omega) (by omega)) ?_
 rintro _ v24 ⟨rfl,K23,S,G,hC⟩;replace U:=U.op S G hC;clear S G hC;refine⟨_,rfl,⟨(U.bk 3 rfl),(U.bk 0 rfl)⟩,?_⟩;refine bh (ah (aT [(0,pg g),(1,.int .u64 id),(5,pg g2),(6,pg g4),(7,pg g6),(8,.int .u64 ((pe - 1) % 18446744073709551616))] (by kernel_rfl) ?_));refine aj (aA (t 37 (pg g) ?_));refine t 38 (.int .u64 id) ?_
 refine t 39 (.int .u64 ((pe - 1) % 18446744073709551616)) ?_
 refine tc 40 57 #[pg g,.int .u64 id,.int .u64 ((pe - 1) % 18446744073709551616)] (vH U.ta.sx hid (by omega) (by omega)) ?_
 rintro _ v29 ⟨rfl,K25,n26,N27,S,qn26,qN27,G,hC⟩;refine⟨_,rfl,?_⟩;replace U:=U.op S G hC;clear S G hC;refine ay (ah (aj (aA (ta 11 [.slice none 0 0] 32 (pg) ?_))));intro v30 y I H B;replace U:=U.new I H B;clear I H B;refine ay (ah (aj (aj (aA (t 41 (pq g2 1) ?_)))));refine tl 42 (.int .u64 tk) (U.bk 4 rfl) 1 ?_
 by_cases x:(tk:Int)=0
 ·refine tq 43 (.bool ((tk:Int) == 0)) (.bool true) (congrArg Value.bool (beq_iff_eq.2 x)) ?_
  refine ay (ah (et ?_));refine aj (aA (t 44 (pq g2 7) ?_));refine tlr 45 [.slice k i j] (U.bk 4 rfl) 7 ?_
  refine ts (U.bk 0 rfl) 0 (.agg #[.slice k i j]) [.slice k i j] [.slice k i j] ?_
  intro v33 Y C;replace U:=U.put 0 rfl C Y (by decide);clear Y C;refine ay (ah (aA (t 46 (pq g2 8) ?_)));refine tlr 47 [.slice q p r] (U.bk 4 rfl) 8 ?_
  refine t 48 (pq g2 7) ?_
  refine tlr 49 [.slice k i j] (U.bk 4 rfl) 7 ?_
  refine tc 50 52 #[.agg #[.slice q p r],.agg #[.slice k i j]] (qL (U.nq 4 rfl).nat (by omega) (U.nq 5 rfl).nat (by omega)) ?_
  rintro _ v35 ⟨o,l,m,zq34,rfl,M,h,mq34,B⟩;refine⟨_,rfl,?_⟩;have ab:=ne3 h U.ta.size;replace U:=U.num M h B;clear M h B;refine t 51 (pq g2 8) ?_
  refine ts (U.bk 4 rfl) 8 (.agg #[.slice o l m]) [.slice o l m] [.int .u64 rt,.int .u64 tk,.slice f e d,.bool jl,.int .u64 un,.bool bo,.int .u64 pe,.slice k i j,.slice o l m,.slice b a c] ?_
  intro v36 Y C;replace U:=U.put 4 rfl C Y (by decide);clear Y C;refine ay (ah (aT [(5,pg g2),(6,pg g4),(7,pg g6),(11,pg y)] (by kernel_rfl) ?_));refine aj (aA (t 52 (pq g2 6) ?_));refine tl 53 (.int .u64 pe) (U.bk 4 rfl) 6 ?_
  refine tq 54 (.int .u64 (IntKind.u64.wrap (pe+1))) (.int .u64 ((pe+1) % 18446744073709551616)) (congrArg (Value.int .u64) (IntKind.wrap_u64 _)) ?_
  refine t 55 (pq g2 6) ?_
  refine ts (U.bk 4 rfl) 6 (.int .u64 ((pe+1) % 18446744073709551616)) [.int .u64 ((pe+1) % 18446744073709551616)] [.int .u64 rt,.int .u64 tk,.slice f e d,.bool jl,.int .u64 un,.bool bo,.int .u64 ((pe+1) % 18446744073709551616),.slice k i j,.slice o l m,.slice b a c] ?_
  intro v37 Y C;replace U:=U.put 4 rfl C Y (by decide);clear Y C;refine ay (ah (aj (aA (t 56 (.agg #[.slice none 0 0]) ?_))));refine t 57 (pq g2 7) ?_
  refine ts (U.bk 4 rfl) 7 (.agg #[.slice none 0 0]) [.slice none 0 0] [.int .u64 rt,.int .u64 tk,.slice f e d,.bool jl,.int .u64 un,.bool bo,.int .u64 ((pe+1) % 18446744073709551616),.slice none 0 0,.slice o l m,.slice b a c] ?_
  intro v38 Y C;replace U:=U.put 4 rfl C Y (by decide);clear Y C;refine ay (ah (aj ?_));replace U:=U.drew;refine bX (fun D=>Blk D g2 [.int .u64 rt,.int .u64 tk,.slice f e d,.bool jl,.int .u64 un,.bool bo,.int .u64 ((pe+1) % 18446744073709551616),.slice none 0 0,.slice o l m,.slice b a c] 39/\Blk D y [.slice k i j] 32) (fun _=>false) ⟨(U.bk 4 rfl),(U.bk 0 rfl)⟩ ?_
  refine zlr 0 58 [.int .u64 rt,.int .u64 tk,.slice f e d,.bool jl,.int .u64 un,.bool bo,.int .u64 ((pe+1) % 18446744073709551616),.slice none 0 0,.slice o l m,.slice b a c] (fun _ h=>h.1) 0 ?_
  refine zlr 1 59 [.slice k i j] (fun _ h=>h.2) 0 ?_
  refine zs 2 (U.bk 3 rfl) 0 (.agg #[.int .u64 rt,.int .u64 tk,.slice f e d,.bool jl,.int .u64 un,.bool bo,.int .u64 ((pe+1) % 18446744073709551616),.slice none 0 0,.slice o l m,.slice b a c]) [.int .u64 rt,.int .u64 tk,.slice f e d,.bool jl,.int .u64 un,.bool bo,.int .u64 ((pe+1) % 18446744073709551616),.slice none 0 0,.slice o l m,.slice b a c] [.int .u64 rt,.int .u64 tk,.slice f e d,.bool jl,.int .u64 un,.bool bo,.int .u64 ((pe+1) % 18446744073709551616),.slice none 0 0,.slice o l m,.slice b a c] ?_
  intro v39 Y C;replace U:=U.put 3 rfl C Y (by decide);clear Y C;refine⟨⟨(U.bk 4 rfl),(U.bk 0 rfl)⟩,?_⟩;refine zs 3 (U.bk 2 rfl) 0 (.agg #[.slice k i j]) [.slice k i j] [.slice k i j] ?_
  intro v40 Y C;replace U:=U.put 2 rfl C Y (by decide);clear Y C;refine⟨⟨(U.bk 4 rfl),(U.bk 0 rfl)⟩,?_⟩;refine bh (ah (aO (aQ (.tuple #[.agg #[.int .u64 rt,.int .u64 tk,.slice f e d,.bool jl,.int .u64 un,.bool bo,.int .u64 ((pe+1) % 18446744073709551616),.slice none 0 0,.slice o l m,.slice b a c],.agg #[.slice k i j]]) (rscc 6 7 (T:=39) (T2:=32) (by kernel_rfl) (by kernel_rfl) (by kernel_rfl) (lr (U.bk 3 rfl) 0) (lr (U.bk 2 rfl) 0)) ?_)));exact⟨_,_,_,_,_,_,_,_,_,_,_,_,_,_,_,_,_,_,_,rfl,U.ta.sx,by omega,by omega,U.ta.km,U.ta.cc,(U.nq 7 rfl),by omega,ac,(U.nq 6 rfl).eqv (if_pos x).symm,by omega,fv8,(U.nq 0 rfl).eqv (if_pos x).symm,by omega,ab,(U.nq 4 rfl),by omega,O⟩
 ·refine tq 43 (.bool ((tk:Int) == 0)) (.bool false) (congrArg Value.bool (beq_eq_false_iff_ne.2 x)) ?_
  refine ay (ah (dA ?_));refine bT (ah (aj (aA (t 52 (pq g2 6) ?_))));refine tl 53 (.int .u64 pe) (U.bk 4 rfl) 6 ?_
  refine tq 54 (.int .u64 (IntKind.u64.wrap (pe+1))) (.int .u64 ((pe+1) % 18446744073709551616)) (congrArg (Value.int .u64) (IntKind.wrap_u64 _)) ?_
  refine t 55 (pq g2 6) ?_
  refine ts (U.bk 4 rfl) 6 (.int .u64 ((pe+1) % 18446744073709551616)) [.int .u64 ((pe+1) % 18446744073709551616)] [.int .u64 rt,.int .u64 tk,.slice f e d,.bool jl,.int .u64 un,.bool bo,.int .u64 ((pe+1) % 18446744073709551616),.slice k i j,.slice q p r,.slice b a c] ?_
  intro v41 Y C;replace U:=U.put 4 rfl C Y (by decide);clear Y C;refine ay (ah (aT [(5,pg g2),(6,pg g4),(7,pg g6),(11,pg y)] (by kernel_rfl) ?_));refine aj (aA (t 56 (.agg #[.slice none 0 0]) ?_));refine t 57 (pq g2 7) ?_
  refine ts (U.bk 4 rfl) 7 (.agg #[.slice none 0 0]) [.slice none 0 0] [.int .u64 rt,.int .u64 tk,.slice f e d,.bool jl,.int .u64 un,.bool bo,.int .u64 ((pe+1) % 18446744073709551616),.slice none 0 0,.slice q p r,.slice b a c] ?_
  intro v42 Y C;replace U:=U.put 4 rfl C Y (by decide);clear Y C;refine ay (ah (aj ?_));replace U:=U.drew;refine bX (fun D=>Blk D g2 [.int .u64 rt,.int .u64 tk,.slice f e d,.bool jl,.int .u64 un,.bool bo,.int .u64 ((pe+1) % 18446744073709551616),.slice none 0 0,.slice q p r,.slice b a c] 39/\Blk D y [.slice none 0 0] 32) (fun _=>false) ⟨(U.bk 4 rfl),(U.bk 0 rfl)⟩ ?_
  refine zlr 0 58 [.int .u64 rt,.int .u64 tk,.slice f e d,.bool jl,.int .u64 un,.bool bo,.int .u64 ((pe+1) % 18446744073709551616),.slice none 0 0,.slice q p r,.slice b a c] (fun _ h=>h.1) 0 ?_
  refine zlr 1 59 [.slice none 0 0] (fun _ h=>h.2) 0 ?_
  refine zs 2 (U.bk 3 rfl) 0 (.agg #[.int .u64 rt,.int .u64 tk,.slice f e d,.bool jl,.int .u64 un,.bool bo,.int .u64 ((pe+1) % 18446744073709551616),.slice none 0 0,.slice q p r,.slice b a c]) [.int .u64 rt,.int .u64 tk,.slice f e d,.bool jl,.int .u64 un,.bool bo,.int .u64 ((pe+1) % 18446744073709551616),.slice none 0 0,.slice q p r,.slice b a c] [.int .u64 rt,.int .u64 tk,.slice f e d,.bool jl,.int .u64 un,.bool bo,.int .u64 ((pe+1) % 18446744073709551616),.slice none 0 0,.slice q p r,.slice b a c] ?_
  intro v43 Y C;replace U:=U.put 3 rfl C Y (by decide);clear Y C;refine⟨⟨(U.bk 4 rfl),(U.bk 0 rfl)⟩,?_⟩;refine zs 3 (U.bk 2 rfl) 0 (.agg #[.slice none 0 0]) [.slice none 0 0] [.slice none 0 0] ?_
  intro v44 Y C;replace U:=U.put 2 rfl C Y (by decide);clear Y C;refine⟨⟨(U.bk 4 rfl),(U.bk 0 rfl)⟩,?_⟩;refine bh (ah (aO (aQ (.tuple #[.agg #[.int .u64 rt,.int .u64 tk,.slice f e d,.bool jl,.int .u64 un,.bool bo,.int .u64 ((pe+1) % 18446744073709551616),.slice none 0 0,.slice q p r,.slice b a c],.agg #[.slice none 0 0]]) (rscc 6 7 (T:=39) (T2:=32) (by kernel_rfl) (by kernel_rfl) (by kernel_rfl) (lr (U.bk 3 rfl) 0) (lr (U.bk 2 rfl) 0)) ?_)));exact⟨_,_,_,_,none,0,0,0,_,_,_,_,_,_,_,_,_,_,_,rfl,U.ta.sx,by omega,by omega,U.ta.km,U.ta.cc,(U.nq 6 rfl),by omega,ac,(bQ _ _).eqv (if_neg x).symm,by omega,.inl rfl,(U.nq 4 rfl).eqv (if_neg x).symm,by omega,fv9,(U.nq 3 rfl),by omega,O⟩
end
end Fo
end
end Go.Proofs.YthfepflplbahkaaGreatDoor
