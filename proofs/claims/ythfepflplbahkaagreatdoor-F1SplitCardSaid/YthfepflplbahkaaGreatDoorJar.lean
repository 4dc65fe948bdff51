import Derived.Test.YthfepflplbahkaaGreatDoorJaq
set_option maxRecDepth 100000
set_option maxHeartbeats 8000000
namespace Go.Proofs.YthfepflplbahkaaGreatDoor
section
namespace Fo
open Go.RowKit Go.Lib Pg Lim Gl Kv Bk Pw
set_option linter.unusedVariables false
theorem uO {w:World} {K K':Nat->Prop} {x:Nat} {cs:List Value} {t:TypeId} (X:Blk w x cs t) (h:¬ K x) (hK:∀ b,K' b->K b\/w.heap.size<=b):¬ K' x:=fun q=>(hK x q).elim h (fun q=>by have:=X.lt; omega)
abbrev Bx:=Nat × List Value × TypeId
abbrev Nx:=Nat × Option Addr × Nat × Nat × Int
structure Ut (w0:World) (K0:Nat->Prop) (B g0:Nat) (W:List aD) (w:World) (K:Nat->Prop) (E:aD) (n N:Nat) (bs:List Bx) (qs:List Nx):Prop where
 ta:Bk.At B w0 K0 w K g0 E W n N
 b:∀ p∈bs,Blk w p.1 p.2.1 p.2.2/\¬ K p.1/\w0.heap.size<=p.1
 q:∀ r∈qs,Nq w K r.1 r.2.1 r.2.2.1 r.2.2.2.1 r.2.2.2.2
 e:∀ p∈bs,∀ r∈qs,r.2.2.1=0\/r.1≠p.1
 d:bs.Pairwise (fun a b=>a.1≠b.1)
section
variable {w0 w w':World} {B g0 n N n' N' g i:Nat} {K0 K K':Nat->Prop} {W:List aD} {E E':aD} {bs:List Bx} {qs:List Nx} {cs cs':List Value} {t:TypeId}
section
variable {z k d:Nat}{a:Option Addr}{x:Int}
theorem Ut.lt(h:Ut w0 K0 B g0 W w K E n N bs qs):∀ p∈bs,p.1 < w.heap.size:=fun p hp=>(h.b p hp).1.lt
theorem vd(h:Sx B w K g0 E W n N):Ut w K B g0 W w K E n N [] []:=⟨h.at,fun _ h=>(List.not_mem_nil h).elim,fun _ h=>(List.not_mem_nil h).elim,fun _ h=>(List.not_mem_nil h).elim,List.Pairwise.nil⟩
theorem Ut.keep(h:Ut w0 K0 B g0 W w K E n N bs qs)(b:Below w.heap.size w w'):Ut w0 K0 B g0 W w' K E n N bs qs:=⟨h.ta.keep b,fun p a=>⟨(h.b p a).1.keep b,(h.b p a).2⟩,fun r c=>(h.q r c).keep b,h.e,h.d⟩
theorem Ut.drew(h:Ut w0 K0 B g0 W w K E n N bs qs):Ut w0 K0 B g0 W w.drew K E n N bs qs:=h.keep (Below.refl _ _).drew
theorem Ut.op(h:Ut w0 K0 B g0 W w K E n N bs qs)(S:Sx B w' K' g0 E' W n' N')(c:∀ b,K' b->K b\/w.heap.size<=b)(hC:Chg K w w'):Ut w0 K0 B g0 W w' K' E' n' N' bs qs:=⟨h.ta.op S c hC,fun p a=>⟨(h.b p a).1.chg hC (h.b p a).2.1,uO (h.b p a).1 (h.b p a).2.1 c,(h.b p a).2.2⟩,fun r f=>(h.q r f).op c hC,h.e,h.d⟩
theorem Ut.add{s:Nat}(h:Ut w0 K0 B g0 W w K E n N bs qs)(L:∀ p∈bs,p.1 < s)(Q:Nq w K z a k d x)(f:k=0\/s<=z):Ut w0 K0 B g0 W w K E n N bs ((z,a,k,d,x) :: qs):=⟨h.ta,h.b,List.forall_mem_cons.2 ⟨Q,h.q⟩,fun p c=>List.forall_mem_cons.2 ⟨f.imp_right (fun q e=>by have:=L p c; have g:z=p.1:=e; omega),h.e p c⟩,h.d⟩
theorem Ut.num(h:Ut w0 K0 B g0 W w K E n N bs qs)(M:Nf w' z a k d x)(c:k=0\/w.heap.size<=z)(b:Below w.heap.size w w'):Ut w0 K0 B g0 W w' K E n N bs ((z,a,k,d,x) :: qs):=(h.keep b).add h.lt (ep h.ta.sx M c) c
theorem Ut.new(h:Ut w0 K0 B g0 W w K E n N bs qs)(X:Blk w' g cs t)(a:w.heap.size<=g)(b:Below w.heap.size w w'):Ut w0 K0 B g0 W w' K E n N ((g,cs,t) :: bs) qs:=by
 have u:=h.keep b;refine⟨u.ta,List.forall_mem_cons.2 ⟨⟨X,fun q=>by have:=h.ta.sx.sa.lt q; omega,Nat.le_trans h.ta.size a⟩,u.b⟩,u.q,List.forall_mem_cons.2 ⟨fun r c=>ne1 (h.q r c).lt a,u.e⟩,List.pairwise_cons.2 ⟨fun p f e=>by have:=h.lt p f; have i:g=p.1:=e; omega,u.d⟩⟩
theorem Ut.bk(h:Ut w0 K0 B g0 W w K E n N bs qs)(i:Nat)(hi:bs[i]? = some (g,cs,t)):Blk w g cs t:=(h.b _ (List.mem_of_getElem? hi)).1
theorem Ut.nq(h:Ut w0 K0 B g0 W w K E n N bs qs)(i:Nat)(hi:qs[i]? = some (z,a,k,d,x)):Nq w K z a k d x:=h.q _ (List.mem_of_getElem? hi)
theorem eG{p q:Bx}:∀ {bs:List Bx} {i:Nat},p∈bs.set i q->p=q\/p∈bs
 | [],_,h=>.inr h
 | b :: bs,0,h=>(List.mem_cons.1 h).imp id (List.mem_cons_of_mem _)
 | b :: bs,i + 1,h=>(List.mem_cons.1 h).elim (fun e=>.inr (e▸List.mem_cons_self)) (fun h=>(eG h).imp id (List.mem_cons_of_mem _))
theorem qi{q : Bx} : ∀ {bs : List Bx} {i : Nat}, bs.Pairwise (fun a b => a.1 ≠ b.1) → (hi : bs[i]? = some (g, cs, t)) → q.1 = g → (bs.set i q).Pairwise (fun a b => a.1 ≠ b.1) ∧ ∀ p ∈ bs.set i q, p ≠ q → p.1 ≠ g
  | [], _, _, hi, _ => by simp at hi
  | b :: bs, 0, hd, hi, hq => by
    have e : b = (g, cs, t) := by simpa using hi
    have d := List.pairwise_cons.1 hd;subst e;refine⟨List.pairwise_cons.2 ⟨fun p c => by rw[hq]; exact d.1 p c, d.2⟩, fun p c hn => ?_⟩;rcases List.mem_cons.1 c with h | h
    · exact absurd h hn
    · exact(d.1 p h).symm
  | b :: bs, i + 1, hd, hi, hq => by
    have d := List.pairwise_cons.1 hd
    have f : bs[i]? = some (g, cs, t) := by simpa using hi
    obtain⟨r1, j⟩:= qi d.2 f hq
    have hb : b.1 ≠ g := d.1 _ (List.mem_of_getElem? f);refine⟨List.pairwise_cons.2 ⟨fun p c => ?_, r1⟩, fun p c hn => ?_⟩
    · rcases eG c with h | h
      · rw[h, hq]; exact hb
      · exact d.1 p h
    · rcases List.mem_cons.1 c with h | h
      · rw[h]; exact hb
      · exact j p h hn
theorem Ut.put(h:Ut w0 K0 B g0 W w K E n N bs qs)(i:Nat)(hi:bs[i]? = some (g,cs,t))(C:Chg (· = g) w w')(Y:Blk w' g cs' t)(f:t≠5):Ut w0 K0 B g0 W w' K E n N (bs.set i (g,cs',t)) qs:=by
 have hm:=List.mem_of_getElem? hi;obtain⟨X,nk,y⟩:=h.b _ hm;obtain⟨r1,j⟩:=qi (q:=(g,cs',t)) h.d hi rfl;refine⟨Bk.At.cell h.ta X C y nk f,fun p a => ?_,fun r c=>(h.q r c).cell C (h.e _ hm r c),fun p a => ?_,r1⟩
 ·by_cases e:p=(g,cs',t)
  ·subst e;exact⟨Y,nk,y⟩
  ·rcases eG a with q | q
   ·exact absurd q e
   ·exact⟨(h.b p q).1.chg C (j p a e),(h.b p q).2⟩
 ·rcases eG a with q | q
  ·rw[q]
   show ∀ r∈qs,r.2.2.1=0\/r.1≠g
   exact h.e _ hm
  ·exact h.e p q
theorem Ut.val{y:Int}(h:Ut w0 K0 B g0 W w K E n N bs qs)(i:Nat)(hi:qs[i]? = some (z,a,k,d,x))(e:x=y):Ut w0 K0 B g0 W w K E n N bs (qs.set i (z,a,k,d,y)):=by
 subst e
 rw[show qs.set i (z,a,k,d,x)=qs from List.ext_getElem? fun j=>by
  rw[List.getElem?_set];split
  ·rename_i e;subst e;split
   ·exact hi.symm
   ·rename_i b;rw[List.getElem?_eq_none (by omega)]
  ·rfl]
 exact h
theorem Ut.sel(h:Ut w0 K0 B g0 W w K E n N bs qs)(is v:List Nat)(hn:is.Nodup:=by decide):Ut w0 K0 B g0 W w K E n N (is.filterMap (bs[·]?)) (v.filterMap (qs[·]?)):=by
 have m:∀ p∈is.filterMap (bs[·]?),p∈bs:=fun p a=>by
  obtain⟨i,_,e⟩:=List.mem_filterMap.1 a;exact List.mem_of_getElem? e
 have g:∀ p∈v.filterMap (qs[·]?),p∈qs:=fun p a=>by
  obtain⟨i,_,e⟩:=List.mem_filterMap.1 a;exact List.mem_of_getElem? e
 refine⟨h.ta,fun p a=>h.b p (m p a),fun r l=>h.q r (g r l),fun p a r l=>h.e p (m p a) r (g r l),?_⟩;have x:=h.d;clear m g h
 induction is with
 | nil=>exact List.Pairwise.nil
 | cons i is ih =>
  have f:=List.nodup_cons.1 hn;rw[List.filterMap_cons];split
  ·exact ih f.2
  ·rename_i p e;refine List.pairwise_cons.2 ⟨fun q z e2 => ?_,ih f.2⟩;obtain⟨j,y,e3⟩:=List.mem_filterMap.1 z
   have k:i≠j:=fun c=>f.1 (c▸y)
   obtain⟨li,s⟩:=List.getElem?_eq_some_iff.1 e;obtain⟨t,u⟩:=List.getElem?_eq_some_iff.1 e3;have o:=List.pairwise_iff_getElem.1 x;rcases Nat.lt_or_gt_of_ne k with c | c
   ·exact o i j li t c (by rw[s,u]; exact e2)
   ·exact o j i t li c (by rw[s,u]; exact e2.symm)
end
end
end Fo
end
section
namespace Fo
open Go.RowKit Go.Lib Pg Lim Gl Kv Bk Pw
attribute [local go_sem] Oper.semAt_some
set_option linter.unusedVariables false
set_option linter.unusedSimpArgs false
section
variable {n g B N n0 c0 z0 n1 c1 z1 n2 c2 z2 n3 c3 z3:Nat}{w:World}{K:Nat->Prop}{E:aD}{W:List aD}{rt tk un pe id x0 x1 x2 x3:Int}{jl bo:Bool}{a0 a1 a2 a3 a4 a5 ao:Option Addr}
theorem rscc{l:Fr}{P:Program}{fn:Func}(j k:Nat){T T2:TypeId}{g2:Nat}{u v:Value}(h:fn.results=#[.cell j T,.cell k T2])(hu:lk l j=some (.pointer (some ⟨g,0,none⟩)))(hv:lk l k=some (.pointer (some ⟨g2,0,none⟩)))(e:(loadVar T ⟨g,0,none⟩).run P w=.ok u w)(b:(loadVar T2 ⟨g2,0,none⟩).run P w=.ok v w)(a:Act)(r:Rd n [] l a):(results fn a.tmps).run P w=.ok (.tuple #[u,v]) w:=by
 have c:=r.gD hu;have d:=r.gD hv;simp at c d;simp[results,h,c,d,asAddr,e,b]
theorem cJ(w:World)(K:Nat->Prop):Nq w K 0 none 0 0 0:=⟨.inl rfl,.inl rfl,(mm w 0).to⟩
structure StE(B:Nat)(w:World)(K:Nat->Prop)(g:Nat)(E:aD)(W:List aD)(n N:Nat)(rt tk:Int)(jl:Bool)(un:Int)(bo:Bool)(id x0 x2 x3:Int)(n0 n2 n3:Nat)(e:Ending)(w':World):Prop where
 ex:∃ b0 k0 d0 y0 b2 k2 d2 y2 b3 k3 d3 y3 K' n' N',e=.returned (.agg #[.int .u64 rt,.int .u64 tk,.slice b0 k0 d0,.bool jl,.int .u64 un,.bool bo,.int .u64 1,.slice none 0 0,.slice b2 k2 d2,.slice b3 k3 d3])/\Sx B w' K' g (di E id 0) W n' N'/\n'<=n + 10/\N'<=N + 10/\(∀ b,K' b->K b\/w.heap.size<=b)/\Chg K w w'/\Nq w' K' y0 b0 k0 d0 (x0)/\k0<=n0 + 1/\(k0=0\/w.heap.size<=y0)/\Nq w' K' y2 b2 k2 d2 (x2)/\k2<=n2 + 1/\(k2=0\/w.heap.size<=y2)/\Nq w' K' y3 b3 k3 d3 (x3)/\k3<=n3 + 1/\(k3=0\/w.heap.size<=y3)
theorem oG(h:Sx B w K g E W n N)(hid:0<=id/\id < 18446744073709551616)(P:Nk w K z0 a0 n0 c0 x0)(m0:n0<=100000)(Q1:Nk w K z1 a1 n1 c1 x1)(m1:n1<=100000)(Q2:Nk w K z2 a2 n2 c2 x2)(m2:n2<=100000)(X:Nk w K z3 a3 n3 c3 x3)(m3:n3<=100000)(hn:n + 40<=4000000000000000000)(hN:N + 40<=100000000):Calls Tryz.prog 17 #[pg g,.int .u64 id,.agg #[.int .u64 rt,.int .u64 tk,.slice a0 n0 c0,.bool jl,.int .u64 un,.bool bo,.int .u64 pe,.slice a1 n1 c1,.slice a2 n2 c2,.slice a3 n3 c3]] w (StE B w K g E W n N rt tk jl un bo id x0 x2 x3 n0 n2 n3):=by
 have U:=vd h;refine aM (n:=16) Tryz.func17 rfl (by kernel_rfl) (by kernel_rfl) ?_
 refine ax (aA (ta 5 [.int .u64 rt,.int .u64 tk,.slice a0 n0 c0,.bool jl,.int .u64 un,.bool bo,.int .u64 pe,.slice a1 n1 c1,.slice a2 n2 c2,.slice a3 n3 c3] 39 (pg) ?_));intro v1 g2 s r B;replace U:=U.new s r B;clear s r B;refine ta 6 [.int .u64 0,.int .u64 0,.slice none 0 0,.bool false,.int .u64 0,.bool false,.int .u64 0,.slice none 0 0,.slice none 0 0,.slice none 0 0] 39 (pg) ?_
 intro v3 g4 p q B;replace U:=U.new p q B;clear p q B;refine ay (ah (ax (aA (tlr 7 [.int .u64 rt,.int .u64 tk,.slice a0 n0 c0,.bool jl,.int .u64 un,.bool bo,.int .u64 pe,.slice a1 n1 c1,.slice a2 n2 c2,.slice a3 n3 c3] (U.bk 1 rfl) 0 ?_))));refine tc 8 44 #[.agg #[.int .u64 rt,.int .u64 tk,.slice a0 n0 c0,.bool jl,.int .u64 un,.bool bo,.int .u64 pe,.slice a1 n1 c1,.slice a2 n2 c2,.slice a3 n3 c3]] (iZ (P.op U.ta.km U.ta.cc).nat (by omega) (Q1.op U.ta.km U.ta.cc).nat (by omega) (Q2.op U.ta.km U.ta.cc).nat (by omega) (X.op U.ta.km U.ta.cc).nat (by omega)) ?_
 rintro _ v9 ⟨i,d,e,M,o,l,m,zv6,a,f,b,J,k,c,j,Q,rfl,G,y,mv5,I,u,mv6,M2,x,aa,F,v,V,B⟩;refine⟨_,rfl,?_⟩;have A:=ne3 y U.ta.size;have Z:=ne3 u U.ta.size;have D:=ne3 x U.ta.size;have z:=ne3 v U.ta.size;have L:=U.lt;replace U:=((((U.keep B).add L (ep U.ta.sx G y) y).add L (ep U.ta.sx I u) u).add L (ep U.ta.sx M2 x) x).add L (ep U.ta.sx F v) v;clear L B G y I u M2 x F v;refine ts (U.bk 1 rfl) 0 (.agg #[.int .u64 rt,.int .u64 tk,.slice i d e,.bool jl,.int .u64 un,.bool bo,.int .u64 pe,.slice o l m,.slice a f b,.slice k c j]) [.int .u64 rt,.int .u64 tk,.slice i d e,.bool jl,.int .u64 un,.bool bo,.int .u64 pe,.slice o l m,.slice a f b,.slice k c j] [.int .u64 rt,.int .u64 tk,.slice i d e,.bool jl,.int .u64 un,.bool bo,.int .u64 pe,.slice o l m,.slice a f b,.slice k c j] ?_
 intro v10 Y C;replace U:=U.put 1 rfl C Y (by decide);clear Y C;refine ay (ah (ax (aA (t 9 (.agg #[.slice none 0 0]) ?_))));refine t 10 (pq g2 6) ?_
 refine ts (U.bk 1 rfl) 6 (.int .u64 1) [.int .u64 1] [.int .u64 rt,.int .u64 tk,.slice i d e,.bool jl,.int .u64 un,.bool bo,.int .u64 1,.slice o l m,.slice a f b,.slice k c j] ?_
 intro v11 Y C;replace U:=U.put 1 rfl C Y (by decide);clear Y C;refine t 11 (pq g2 7) ?_
 refine ts (U.bk 1 rfl) 7 (.agg #[.slice none 0 0]) [.slice none 0 0] [.int .u64 rt,.int .u64 tk,.slice i d e,.bool jl,.int .u64 un,.bool bo,.int .u64 1,.slice none 0 0,.slice a f b,.slice k c j] ?_
 intro v12 Y C;replace U:=U.put 1 rfl C Y (by decide);clear Y C;refine ay (ah (ax (aA (t 12 (pg g) ?_))));refine t 13 (.int .u64 id) ?_
 refine tc 14 45 #[pg g,.int .u64 id,.int .u64 0] (j3 U.ta.sx hid (by omega) (by omega)) ?_
 rintro _ O ⟨rfl,R,S,H,hC⟩;refine⟨_,rfl,?_⟩;replace U:=U.op S H hC;clear S H hC;refine ay (ah (aT [(5,pg g2),(6,pg g4)] (by kernel_rfl) ?_));refine ax (aA (tlr 15 [.int .u64 rt,.int .u64 tk,.slice i d e,.bool jl,.int .u64 un,.bool bo,.int .u64 1,.slice none 0 0,.slice a f b,.slice k c j] (U.bk 1 rfl) 0 ?_));refine ts (U.bk 0 rfl) 0 (.agg #[.int .u64 rt,.int .u64 tk,.slice i d e,.bool jl,.int .u64 un,.bool bo,.int .u64 1,.slice none 0 0,.slice a f b,.slice k c j]) [.int .u64 rt,.int .u64 tk,.slice i d e,.bool jl,.int .u64 un,.bool bo,.int .u64 1,.slice none 0 0,.slice a f b,.slice k c j] [.int .u64 rt,.int .u64 tk,.slice i d e,.bool jl,.int .u64 un,.bool bo,.int .u64 1,.slice none 0 0,.slice a f b,.slice k c j] ?_
 intro v15 Y C;replace U:=U.put 0 rfl C Y (by decide);clear Y C;refine ay (ah (aP (aQ (.agg #[.int .u64 rt,.int .u64 tk,.slice i d e,.bool jl,.int .u64 un,.bool bo,.int .u64 1,.slice none 0 0,.slice a f b,.slice k c j]) (rsc 6 (T:=39) (by kernel_rfl) (by kernel_rfl) (lr (U.bk 0 rfl) 0)) ?_)));exact⟨_,_,_,_,_,_,_,_,_,_,_,_,_,_,_,rfl,U.ta.sx,by omega,by omega,U.ta.km,U.ta.cc,(U.nq 3 rfl),by omega,A,(U.nq 1 rfl),by omega,D,(U.nq 0 rfl),by omega,z⟩
theorem ri{p:Int}(h:Sx B w K g E W n N)(hid:0<=id/\id < 18446744073709551616)(d:Nk w K z0 a0 n0 c0 x0)(m0:n0<=100000)(f:Nk w K z1 a1 n1 c1 x1)(m1:n1<=100000)(hn:n + 40<=4000000000000000000)(u:N + 40<=100000000):Calls Tryz.prog 33 #[pg g,.int .u64 id,.agg #[.slice a0 n0 c0,.int .u64 p,.slice a1 n1 c1]] w (SxF B w K g (letE E id p) W n N (.tuple #[])):=by
 have A:=h.at
 refine aM (n:=11) Tryz.func33 rfl (by kernel_rfl) (by kernel_rfl) ?_
 refine ax (aA (ta 5 [.slice a0 n0 c0,.int .u64 p,.slice a1 n1 c1] 54 (pg) ?_));intro v1 g2 c b B;have l:=Nat.le_trans A.size b;have a:=A.new b;have j:=ne1 d.lt b;have i:=ne1 f.lt b;replace A:=A.keep B;replace d:=d.keep B;replace f:=f.keep B;clear B;refine ay (ah (aA (t 6 (pg g) ?_)));refine t 7 (.int .u64 id) ?_
 refine t 8 (pq g2 1) ?_
 refine tl 9 (.int .u64 p) c 1 ?_
 refine tc 10 57 #[pg g,.int .u64 id,.int .u64 p] (vy A.sx hid (by omega) (by omega)) ?_
 rintro _ q ⟨rfl,r,s,o,S,k,m,e,hC⟩;refine⟨_,rfl,?_⟩;replace d:=d.op e hC;replace f:=f.op e hC;replace a:=opX c a e hC;replace c:=a.1;replace a:=a.2;replace A:=A.op S e hC;clear S e hC;refine ay (iX (.tuple #[]) (rs0 (by kernel_rfl)) ?_);exact⟨rfl,_,_,_,A.sx,by omega,by omega,A.km,A.cc⟩
structure HoE(B:Nat)(w:World)(K:Nat->Prop)(g:Nat)(E:aD)(W:List aD)(n N:Nat)(tk pe id x0 x4:Int)(n0 n4:Nat)(e:Ending)(w':World):Prop where
 ex:∃ b0 k0 d0 y0 b1 k1 d1 y1 K' n' N',e=.returned (.agg #[.slice b0 k0 d0,.int .u64 ((pe - 1) % 18446744073709551616),.slice b1 k1 d1])/\Sx B w' K' g (di E id ((pe - 1) % 18446744073709551616)) W n' N'/\n'<=n + 10/\N'<=N + 10/\(∀ b,K' b->K b\/w.heap.size<=b)/\Chg K w w'/\Nq w' K' y0 b0 k0 d0 (x4)/\k0<=n4 + 1/\(k0=0\/w.heap.size<=y0)/\Nq w' K' y1 b1 k1 d1 (x4 * (tk * U36) / x0)/\k1<=n0 + n4 + 40/\(k1=0\/w.heap.size<=y1)
theorem fY{u:Int}{n4 c4 z4:Nat}{x4:Int}{l r z5:Nat}{L:Int}(h:Sx B w K g E W n N)(hid:0<=id/\id < 18446744073709551616)(v:0<=tk/\tk < 18446744073709551616)(G:Nk w K z0 a0 n0 c0 x0)(m0:n0<=100000)(R:Nk w K z1 a1 n1 c1 x1)(m1:n1<=100000)(Z:Nk w K z2 a2 n2 c2 x2)(m2:n2<=100000)(O:Nk w K z3 a3 n3 c3 x3)(m3:n3<=100000)(y:Nk w K z4 a4 n4 c4 x4)(m4:n4<=100000)(X:Nk w K z5 a5 l r L)(m5:l<=100000)(hn:n + 40<=4000000000000000000)(Q:N + 40<=100000000):Calls Tryz.prog 19 #[pg g,.int .u64 id,.agg #[.int .u64 rt,.int .u64 tk,.slice a0 n0 c0,.bool jl,.int .u64 un,.bool bo,.int .u64 pe,.slice a1 n1 c1,.slice a2 n2 c2,.slice a3 n3 c3],.agg #[.slice a4 n4 c4,.int .u64 u,.slice a5 l r]] w (HoE B w K g E W n N tk pe id x0 x4 n0 n4):=by
 have U:=vd h;refine aM (n:=29) Tryz.func19 rfl (by kernel_rfl) (by kernel_rfl) ?_
 refine ax (aA (ta 6 [.int .u64 rt,.int .u64 tk,.slice a0 n0 c0,.bool jl,.int .u64 un,.bool bo,.int .u64 pe,.slice a1 n1 c1,.slice a2 n2 c2,.slice a3 n3 c3] 39 (pg) ?_));intro v1 g2 q o B;replace U:=U.new q o B;clear q o B;refine ta 7 [.slice a4 n4 c4,.int .u64 u,.slice a5 l r] 54 (pg) ?_
 intro v3 g4 j m B;replace U:=U.new j m B;clear j m B;refine ta 8 [.slice none 0 0,.int .u64 0,.slice none 0 0] 54 (pg) ?_
 intro v5 g6 i k B;replace U:=U.new i k B;clear i k B;refine ay (ah (ax (aA (t 10 (pq g2 6) ?_))));refine tl 11 (.int .u64 pe) (U.bk 2 rfl) 6 ?_
 refine tq 12 (.int .u64 (IntKind.u64.wrap (pe - 1))) (.int .u64 ((pe - 1) % 18446744073709551616)) (congrArg (Value.int .u64) (IntKind.wrap_u64 _)) ?_
 refine t 9 (.int .u64 ((pe - 1) % 18446744073709551616)) ?_
 refine ay (ah (ax (aA (t 13 (pg g) ?_))));refine t 14 (.int .u64 id) ?_
 refine t 15 (.int .u64 ((pe - 1) % 18446744073709551616)) ?_
 refine tc 16 45 #[pg g,.int .u64 id,.int .u64 ((pe - 1) % 18446744073709551616)] (j3 U.ta.sx hid (by omega) (by omega)) ?_
 rintro _ V ⟨rfl,P,S,x,hC⟩;refine⟨_,rfl,?_⟩;replace U:=U.op S x hC;clear S x hC;refine ay (ah (aT [(6,pg g2),(7,pg g4),(8,pg g6),(9,.int .u64 ((pe - 1) % 18446744073709551616))] (by kernel_rfl) ?_));refine ax ?_
 replace U:=U.drew;refine cj (fun D=>Blk D g4 [.slice a4 n4 c4,.int .u64 u,.slice a5 l r] 54/\Blk D g2 [.int .u64 rt,.int .u64 tk,.slice a0 n0 c0,.bool jl,.int .u64 un,.bool bo,.int .u64 pe,.slice a1 n1 c1,.slice a2 n2 c2,.slice a3 n3 c3] 39) (fun _=>false) ⟨(U.bk 1 rfl),(U.bk 2 rfl)⟩ ?_
 refine z 0 17 (pg g4) ?_
 refine zlr 1 18 [.slice a4 n4 c4] (fun _ h=>h.1) 0 ?_
 refine z 3 20 (.int .u64 ((pe - 1) % 18446744073709551616)) ?_
 refine z 4 21 (pq g2 1) ?_
 refine zl 5 22 (.int .u64 tk) (fun _ h=>h.2) 1 ?_
 refine z 6 23 (pq g2 2) ?_
 refine zlr 7 24 [.slice a0 n0 c0] (fun _ h=>h.2) 2 ?_
 refine z 8 25 (pg g4) ?_
 refine zlr 9 26 [.slice a4 n4 c4] (fun _ h=>h.1) 0 ?_
 refine zc 2 19 47 #[.agg #[.slice a4 n4 c4]] (jo (y.op U.ta.km U.ta.cc).nat (by omega)) ?_
 rintro _ v10 ⟨f,d,e,J,rfl,M,h,H,B⟩;have s:=ne3 h U.ta.size;replace U:=U.num M h B;clear M h B;refine⟨_,rfl,⟨(U.bk 1 rfl),(U.bk 2 rfl)⟩,?_⟩;refine zc 10 27 48 #[.int .u64 tk,.agg #[.slice a0 n0 c0],.agg #[.slice a4 n4 c4]] (we (G.op U.ta.km U.ta.cc).nat (by omega) (y.op U.ta.km U.ta.cc).nat (by omega) v) ?_
 rintro _ v12 ⟨a,c,b,F,rfl,M,h,A,B⟩;have p:=ne3 h U.ta.size;replace U:=U.num M h B;clear M h B;refine⟨_,rfl,⟨(U.bk 1 rfl),(U.bk 2 rfl)⟩,?_⟩;refine zr 11 28 (.agg #[.slice f d e,.int .u64 ((pe - 1) % 18446744073709551616),.slice a c b]) (by intro _ _; kernel_rfl) ?_
 refine zs 12 (U.bk 0 rfl) 0 (.agg #[.slice f d e,.int .u64 ((pe - 1) % 18446744073709551616),.slice a c b]) [.slice f d e,.int .u64 ((pe - 1) % 18446744073709551616),.slice a c b] [.slice f d e,.int .u64 ((pe - 1) % 18446744073709551616),.slice a c b] ?_
 intro I Y C;replace U:=U.put 0 rfl C Y (by decide);clear Y C;refine⟨⟨(U.bk 1 rfl),(U.bk 2 rfl)⟩,?_⟩;refine bB (ah (aT [(8,pg g6)] (by kernel_rfl) ?_));refine aP (aQ (.agg #[.slice f d e,.int .u64 ((pe - 1) % 18446744073709551616),.slice a c b]) (rsc 8 (T:=54) (by kernel_rfl) (by kernel_rfl) (lr (U.bk 0 rfl) 0)) ?_);exact⟨_,_,_,_,_,_,_,_,_,_,_,rfl,U.ta.sx,by omega,by omega,U.ta.km,U.ta.cc,(U.nq 1 rfl),by omega,s,(U.nq 0 rfl),by omega,p⟩
def Cy(E:aD)(id p b a:Int):aD:=di (put E (Ky.mk 8 id p) (cv b a)) id p
structure CuE(B:Nat)(w:World)(K:Nat->Prop)(g:Nat)(E:aD)(W:List aD)(n N:Nat)(rt tk:Int)(jl:Bool)(un:Int)(bo:Bool)(pe id af x0 x1 x2 x3:Int)(n0 n1 n2 n3:Nat)(e:Ending)(w':World):Prop where
 ex:∃ b0 k0 d0 y0 b1 k1 d1 y1 b2 k2 d2 y2 b3 k3 d3 y3 K' n' N',e=.returned (.agg #[.int .u64 rt,.int .u64 af,.slice b0 k0 d0,.bool jl,.int .u64 un,.bool bo,.int .u64 pe,.slice b1 k1 d1,.slice b2 k2 d2,.slice b3 k3 d3])/\Sx B w' K' g (Cy E id ((pe - 1) % 18446744073709551616) tk af) W n' N'/\n'<=n + 10/\N'<=N + 10/\(∀ b,K' b->K b\/w.heap.size<=b)/\Chg K w w'/\Nq w' K' y0 b0 k0 d0 (x0)/\k0<=n0 + 1/\(k0=0\/w.heap.size<=y0)/\Nq w' K' y1 b1 k1 d1 (x1)/\k1<=n1 + 1/\(k1=0\/w.heap.size<=y1)/\Nq w' K' y2 b2 k2 d2 (x2)/\k2<=n2 + 1/\(k2=0\/w.heap.size<=y2)/\Nq w' K' y3 b3 k3 d3 (x3)/\k3<=n3 + 1/\(k3=0\/w.heap.size<=y3)
theorem BO{af:Int}(h:Sx B w K g E W n N)(hid:0<=id/\id < 18446744073709551616)(u:Nk w K z0 a0 n0 c0 x0)(m0:n0<=100000)(x:Nk w K z1 a1 n1 c1 x1)(m1:n1<=100000)(y:Nk w K z2 a2 n2 c2 x2)(m2:n2<=100000)(v:Nk w K z3 a3 n3 c3 x3)(m3:n3<=100000)(hn:n + 40<=4000000000000000000)(hN:N + 40<=100000000):Calls Tryz.prog 34 #[pg g,.int .u64 id,.agg #[.int .u64 rt,.int .u64 tk,.slice a0 n0 c0,.bool jl,.int .u64 un,.bool bo,.int .u64 pe,.slice a1 n1 c1,.slice a2 n2 c2,.slice a3 n3 c3],.int .u64 af] w (CuE B w K g E W n N rt tk jl un bo pe id af x0 x1 x2 x3 n0 n1 n2 n3):=by
 have A:=h.at
 refine aM (n:=32) Tryz.func34 rfl (by kernel_rfl) (by kernel_rfl) ?_
 refine ax (aA (ta 6 [.int .u64 rt,.int .u64 tk,.slice a0 n0 c0,.bool jl,.int .u64 un,.bool bo,.int .u64 pe,.slice a1 n1 c1,.slice a2 n2 c2,.slice a3 n3 c3] 39 (pg) ?_));intro v1 g2 a X B;have zg2:=Nat.le_trans A.size X;have c:=A.new X;have ai:=ne1 u.lt X;have ag:=ne1 x.lt X;have ad:=ne1 y.lt X;have ac:=ne1 v.lt X;replace A:=A.keep B;replace u:=u.keep B;replace x:=x.keep B;replace y:=y.keep B;replace v:=v.keep B;clear B;have lXg2:=a.lt;refine ta 8 [.int .u64 0,.int .u64 0,.slice none 0 0,.bool false,.int .u64 0,.bool false,.int .u64 0,.slice none 0 0,.slice none 0 0,.slice none 0 0] 39 (pg) ?_
 intro v3 g4 b V B;have zg4:=Nat.le_trans A.size V;have d:=A.new V;have an:=ne1 u.lt V;have av:=ne1 x.lt V;have aw:=ne1 y.lt V;have ap:=ne1 v.lt V;replace A:=A.keep B;replace u:=u.keep B;replace x:=x.keep B;replace y:=y.keep B;replace v:=v.keep B;replace a:=a.keep B;clear B;refine ay (ah (ax (aA (t 10 (pq g2 6) ?_))));refine tl 11 (.int .u64 pe) a 6 ?_
 refine tq 12 (.int .u64 (IntKind.u64.wrap (pe - 1))) (.int .u64 ((pe - 1) % 18446744073709551616)) (congrArg (Value.int .u64) (IntKind.wrap_u64 _)) ?_
 refine t 9 (.int .u64 ((pe - 1) % 18446744073709551616)) ?_
 refine ay (ah (ax ?_));replace A:=A.drew;replace u:=u.drew;replace x:=x.drew;replace y:=y.drew;replace v:=v.drew;replace a:=a.drew;replace b:=b.drew;refine cj (fun w'=>Blk w' g2 [.int .u64 rt,.int .u64 tk,.slice a0 n0 c0,.bool jl,.int .u64 un,.bool bo,.int .u64 pe,.slice a1 n1 c1,.slice a2 n2 c2,.slice a3 n3 c3] 39) (fun _=>false) a ?_
 refine z 0 13 (pg g) ?_
 refine z 1 14 (.int .u64 id) ?_
 refine z 2 15 (.int .u64 ((pe - 1) % 18446744073709551616)) ?_
 refine z 4 17 (pq g2 1) ?_
 refine zl 5 18 (.int .u64 tk) (fun _ h=>h) 1 ?_
 refine z 6 19 (.int .u64 af) ?_
 refine zr 7 20 (.agg #[.int .u64 tk,.int .u64 af]) (by intro _ _; kernel_rfl) ?_
 refine zc 3 16 65 #[.int .i64 8,.int .u64 id,.int .u64 ((pe - 1) % 18446744073709551616)] (vL hid (by decide)) ?_
 rintro _ v7 ⟨kv6,rfl,U5,B⟩;replace A:=A.keep B;replace u:=u.keep B;replace x:=x.keep B;replace y:=y.keep B;replace v:=v.keep B;replace a:=a.keep B;replace b:=b.keep B;clear B;refine⟨_,rfl,a,?_⟩;refine zc 8 21 66 #[.agg #[.int .u64 tk,.int .u64 af]] (Dn) ?_
 rintro _ v10 ⟨pv9,rfl,U8,B⟩;replace A:=A.keep B;replace u:=u.keep B;replace x:=x.keep B;replace y:=y.keep B;replace v:=v.keep B;replace a:=a.keep B;replace b:=b.keep B;replace U5:=eN U5 B;clear B;refine⟨_,rfl,a,?_⟩;refine zc 9 22 64 #[pg g,kv6,pv9] (qset A.sx U5 (mu id ((pe - 1) % 18446744073709551616)) U8 (Nat.le_trans (yk _ _) (by decide)) (by omega) (by omega)) ?_
 rintro _ v12 ⟨rfl,K11,S,I,hC⟩;replace u:=u.op I hC;replace x:=x.op I hC;replace y:=y.op I hC;replace v:=v.op I hC;replace c:=opX a c I hC;replace a:=c.1;replace c:=c.2;replace d:=opX b d I hC;replace b:=d.1;replace d:=d.2;replace U5:=A.byu U5 hC;replace U8:=A.byu U8 hC;replace A:=A.op S I hC;clear S I hC;clear U5;clear U8;refine⟨_,rfl,a,?_⟩;refine bB (ah (aT [(0,pg g),(1,.int .u64 id),(3,.int .u64 af),(6,pg g2),(8,pg g4),(9,.int .u64 ((pe - 1) % 18446744073709551616))] (by kernel_rfl) ?_));refine ax (aA (t 23 (pg g) ?_));refine t 24 (.int .u64 id) ?_
 refine t 25 (.int .u64 ((pe - 1) % 18446744073709551616)) ?_
 refine tc 26 45 #[pg g,.int .u64 id,.int .u64 ((pe - 1) % 18446744073709551616)] (j3 A.sx hid (by omega) (by omega)) ?_
 rintro _ v14 ⟨rfl,K13,S,I,hC⟩;refine⟨_,rfl,?_⟩;replace u:=u.op I hC;replace x:=x.op I hC;replace y:=y.op I hC;replace v:=v.op I hC;replace c:=opX a c I hC;replace a:=c.1;replace c:=c.2;replace d:=opX b d I hC;replace b:=d.1;replace d:=d.2;replace A:=A.op S I hC;clear S I hC;refine ay (ah (ax (aA (tlr 27 [.int .u64 rt,.int .u64 tk,.slice a0 n0 c0,.bool jl,.int .u64 un,.bool bo,.int .u64 pe,.slice a1 n1 c1,.slice a2 n2 c2,.slice a3 n3 c3] a 0 ?_))));refine tc 28 44 #[.agg #[.int .u64 rt,.int .u64 tk,.slice a0 n0 c0,.bool jl,.int .u64 un,.bool bo,.int .u64 pe,.slice a1 n1 c1,.slice a2 n2 c2,.slice a3 n3 c3]] (iZ u.nat (by omega) x.nat (by omega) y.nat (by omega) v.nat (by omega)) ?_
 rintro _ v19 ⟨q,e,l,zv15,m,o,r,zv16,s,k,f,zv17,j,i,p,zv18,rfl,am,O,mv15,al,R,mv16,aj,L,mv17,ak,Q,mv18,B⟩;refine⟨_,rfl,?_⟩;have M:=ne2 O a.lt;have ab:=ne2 O b.lt;have aq:=ne3 O A.size;have D:=ep A.sx am O;clear am O;have J:=ne2 R a.lt;have aa:=ne2 R b.lt;have ao:=ne3 R A.size;have F:=ep A.sx al R;clear al R;have P:=ne2 L a.lt;have ae:=ne2 L b.lt;have au:=ne3 L A.size;have H:=ep A.sx aj L;clear aj L;have U:=ne2 Q a.lt;have Z:=ne2 Q b.lt;have ar:=ne3 Q A.size;have G:=ep A.sx ak Q;clear ak Q;replace A:=A.keep B;replace u:=u.keep B;replace x:=x.keep B;replace y:=y.keep B;replace v:=v.keep B;replace a:=a.keep B;replace b:=b.keep B;clear B;refine ts a 0 (.agg #[.int .u64 rt,.int .u64 tk,.slice q e l,.bool jl,.int .u64 un,.bool bo,.int .u64 pe,.slice m o r,.slice s k f,.slice j i p]) [.int .u64 rt,.int .u64 tk,.slice q e l,.bool jl,.int .u64 un,.bool bo,.int .u64 pe,.slice m o r,.slice s k f,.slice j i p] [.int .u64 rt,.int .u64 tk,.slice q e l,.bool jl,.int .u64 un,.bool bo,.int .u64 pe,.slice m o r,.slice s k f,.slice j i p] ?_
 intro v20 Y C;replace A:=Bk.At.cell A a C zg2 c (by decide);replace u:=u.cell C ai;replace x:=x.cell C ag;replace y:=y.cell C ad;replace v:=v.cell C ac;replace b:=b.chg C (show g4≠g2 by omega);replace D:=D.cell C M;replace F:=F.cell C J;replace H:=H.cell C P;replace G:=G.cell C U;clear C a;have a:=Y;clear Y;refine ay (ah (ax (aA (t 29 (.int .u64 af) ?_))));refine t 30 (pq g2 1) ?_
 refine ts a 1 (.int .u64 af) [.int .u64 af] [.int .u64 rt,.int .u64 af,.slice q e l,.bool jl,.int .u64 un,.bool bo,.int .u64 pe,.slice m o r,.slice s k f,.slice j i p] ?_
 intro v21 Y C;replace A:=Bk.At.cell A a C zg2 c (by decide);replace u:=u.cell C ai;replace x:=x.cell C ag;replace y:=y.cell C ad;replace v:=v.cell C ac;replace b:=b.chg C (show g4≠g2 by omega);replace D:=D.cell C M;replace F:=F.cell C J;replace H:=H.cell C P;replace G:=G.cell C U;clear C a;have a:=Y;clear Y;refine ay (ah (ax (aA (tlr 31 [.int .u64 rt,.int .u64 af,.slice q e l,.bool jl,.int .u64 un,.bool bo,.int .u64 pe,.slice m o r,.slice s k f,.slice j i p] a 0 ?_))));refine ts b 0 (.agg #[.int .u64 rt,.int .u64 af,.slice q e l,.bool jl,.int .u64 un,.bool bo,.int .u64 pe,.slice m o r,.slice s k f,.slice j i p]) [.int .u64 rt,.int .u64 af,.slice q e l,.bool jl,.int .u64 un,.bool bo,.int .u64 pe,.slice m o r,.slice s k f,.slice j i p] [.int .u64 rt,.int .u64 af,.slice q e l,.bool jl,.int .u64 un,.bool bo,.int .u64 pe,.slice m o r,.slice s k f,.slice j i p] ?_
 intro v22 Y C;replace A:=Bk.At.cell A b C zg4 d (by decide);replace u:=u.cell C an;replace x:=x.cell C av;replace y:=y.cell C aw;replace v:=v.cell C ap;replace a:=a.chg C (show g2≠g4 by omega);replace D:=D.cell C ab;replace F:=F.cell C aa;replace H:=H.cell C ae;replace G:=G.cell C Z;clear C b;have b:=Y;clear Y;refine ay (ah (aP (aQ (.agg #[.int .u64 rt,.int .u64 af,.slice q e l,.bool jl,.int .u64 un,.bool bo,.int .u64 pe,.slice m o r,.slice s k f,.slice j i p]) (rsc 8 (T:=39) (by kernel_rfl) (by kernel_rfl) (lr b 0)) ?_)));exact⟨_,_,_,_,_,_,_,_,_,_,_,_,_,_,_,_,_,_,_,rfl,A.sx,by omega,by omega,A.km,A.cc,D,by omega,aq,F,by omega,ao,H,by omega,au,G,by omega,ar⟩
def eV(E:aD)(id pe tk cur:Int):aD:=letE (me E id pe (hX (got E (Ky.mk 7 id ((pe - 1) % 18446744073709551616))) 0 + cur / tk) 1) id ((pe - 1) % 18446744073709551616)
structure ClE(B:Nat)(w:World)(K:Nat->Prop)(g:Nat)(E:aD)(W:List aD)(n N:Nat)(rt tk:Int)(jl:Bool)(un:Int)(bo:Bool)(pe id x0 x1 x2 x3:Int)(n0 n1 n2 n3:Nat)(e:Ending)(w':World):Prop where
 ex:∃ b0 k0 d0 y0 b1 k1 d1 y1 b2 k2 d2 y2 b3 k3 d3 y3 K' n' N',e=.returned (.tuple #[.agg #[.int .u64 rt,.int .u64 tk,.slice b0 k0 d0,.bool jl,.int .u64 un,.bool bo,.int .u64 ((pe + 1) % 18446744073709551616),.slice none 0 0,.slice b2 k2 d2,.slice b3 k3 d3],.agg #[.slice b1 k1 d1]])/\Sx B w' K' g (eV E id pe tk x1) W n' N'/\n'<=n + 20/\N'<=N + 20/\(∀ b,K' b->K b\/w.heap.size<=b)/\Chg K w w'/\Nq w' K' y0 b0 k0 d0 (x0)/\k0<=n0 + 1/\(k0=0\/w.heap.size<=y0)/\Nq w' K' y1 b1 k1 d1 ((if tk=0 then x1 else 0))/\k1<=n1 + 1/\(k1=0\/w.heap.size<=y1)/\Nq w' K' y2 b2 k2 d2 ((if tk=0 then gS x2 x1 else x2))/\k2<=n2 + 1/\(k2=0\/w.heap.size<=y2)/\Nq w' K' y3 b3 k3 d3 (x3)/\k3<=n3 + 1/\(k3=0\/w.heap.size<=y3)
theorem Nq.eqv{z c:Nat}{x y:Int}(h:Nq w K z ao n c x)(e:x=y):Nq w K z ao n c y:=e▸h
theorem iA(h:Sx B w K g E W n N)(hid:0<=id/\id < 18446744073709551616)(htk:0<=tk/\tk < 18446744073709551616)(Q0:Nk w K z0 a0 n0 c0 x0)(m0:n0<=100000)(Q1:Nk w K z1 a1 n1 c1 x1)(m1:n1<=100000)(Q2:Nk w K z2 a2 n2 c2 x2)(m2:n2<=100000)(Q3:Nk w K z3 a3 n3 c3 x3)(m3:n3<=100000)(hn:n + 60<=4000000000000000000)(hN:N + 60<=100000000):Calls Tryz.prog 22 #[pg g,.int .u64 id,.agg #[.int .u64 rt,.int .u64 tk,.slice a0 n0 c0,.bool jl,.int .u64 un,.bool bo,.int .u64 pe,.slice a1 n1 c1,.slice a2 n2 c2,.slice a3 n3 c3]] w (ClE B w K g E W n N rt tk jl un bo pe id x0 x1 x2 x3 n0 n1 n2 n3):=by
 have U:=vd h;refine aM (n:=60) Tryz.func22 rfl (by kernel_rfl) (by kernel_rfl) ?_
 refine ax (aA (ta 5 [.int .u64 rt,.int .u64 tk,.slice a0 n0 c0,.bool jl,.int .u64 un,.bool bo,.int .u64 pe,.slice a1 n1 c1,.slice a2 n2 c2,.slice a3 n3 c3] 39 (pg) ?_));intro v1 g2 X ad B;replace U:=U.new X ad B;clear X ad B;refine ta 6 [.int .u64 0,.int .u64 0,.slice none 0 0,.bool false,.int .u64 0,.bool false,.int .u64 0,.slice none 0 0,.slice none 0 0,.slice none 0 0] 39 (pg) ?_
 intro v3 g4 ab ac B;replace U:=U.new ab ac B;clear ab ac B;refine ta 7 [.slice none 0 0] 32 (pg) ?_
 intro v5 g6 aa V B;replace U:=U.new aa V B;clear aa V B;refine ay (ah (ax (aA (tlr 12 [.int .u64 rt,.int .u64 tk,.slice a0 n0 c0,.bool jl,.int .u64 un,.bool bo,.int .u64 pe,.slice a1 n1 c1,.slice a2 n2 c2,.slice a3 n3 c3] (U.bk 2 rfl) 0 ?_))));refine tc 13 44 #[.agg #[.int .u64 rt,.int .u64 tk,.slice a0 n0 c0,.bool jl,.int .u64 un,.bool bo,.int .u64 pe,.slice a1 n1 c1,.slice a2 n2 c2,.slice a3 n3 c3]] (iZ (Q0.op U.ta.km U.ta.cc).nat (by omega) (Q1.op U.ta.km U.ta.cc).nat (by omega) (Q2.op U.ta.km U.ta.cc).nat (by omega) (Q3.op U.ta.km U.ta.cc).nat (by omega)) ?_
 rintro _ v11 ⟨i,f,d,zv7,k,e,j,zv8,q,p,r,zv9,c,a,b,zv10,rfl,M0,h0,mv7,M1,h1,mv8,M2,h2,mv9,M3,h3,mv10,B⟩;refine⟨_,rfl,?_⟩;have ag:=ne3 h0 U.ta.size;have fv8:=ne3 h1 U.ta.size;have fv9:=ne3 h2 U.ta.size;have H:=ne3 h3 U.ta.size;have L:=U.lt;replace U:=((((U.keep B).add L (ep U.ta.sx M0 h0) h0).add L (ep U.ta.sx M1 h1) h1).add L (ep U.ta.sx M2 h2) h2).add L (ep U.ta.sx M3 h3) h3;clear L B M0 h0 M1 h1 M2 h2 M3 h3;refine ts (U.bk 2 rfl) 0 (.agg #[.int .u64 rt,.int .u64 tk,.slice i f d,.bool jl,.int .u64 un,.bool bo,.int .u64 pe,.slice k e j,.slice q p r,.slice c a b]) [.int .u64 rt,.int .u64 tk,.slice i f d,.bool jl,.int .u64 un,.bool bo,.int .u64 pe,.slice k e j,.slice q p r,.slice c a b] [.int .u64 rt,.int .u64 tk,.slice i f d,.bool jl,.int .u64 un,.bool bo,.int .u64 pe,.slice k e j,.slice q p r,.slice c a b] ?_
 intro v12 Y C;replace U:=U.put 2 rfl C Y (by decide);clear Y C;refine ay (ah (ax (aA (t 14 (pq g2 6) ?_))));refine tl 15 (.int .u64 pe) (U.bk 2 rfl) 6 ?_
 refine tq 16 (.int .u64 (IntKind.u64.wrap (pe - 1))) (.int .u64 ((pe - 1) % 18446744073709551616)) (congrArg (Value.int .u64) (IntKind.wrap_u64 _)) ?_
 refine t 8 (.int .u64 ((pe - 1) % 18446744073709551616)) ?_
 refine ay (ah (aT [(0,pg g),(1,.int .u64 id),(5,pg g2),(6,pg g4),(7,pg g6),(8,.int .u64 ((pe - 1) % 18446744073709551616))] (by kernel_rfl) ?_));refine ax (aA (t 18 (pq g2 7) ?_));refine tlr 19 [.slice k e j] (U.bk 2 rfl) 7 ?_
 refine t 20 (pq g2 1) ?_
 refine tl 21 (.int .u64 tk) (U.bk 2 rfl) 1 ?_
 refine tc 22 30 #[.agg #[.slice k e j],.int .u64 tk] (Ea (U.nq 2 rfl).nat (by omega) htk) ?_
 rintro _ v14 ⟨v,u,s,zq13,rfl,M,h,mq13,B⟩;refine⟨_,rfl,?_⟩;have fq13:=ne3 h U.ta.size;replace U:=U.num M h B;clear M h B;refine t 17 (.tuple #[.agg #[.slice v u s],.int .i64 (dvZ tk)]) ?_
 refine t 23 (.agg #[.slice v u s]) ?_
 refine t 24 (.int .i64 (dvZ tk)) ?_
 refine ta 9 [.slice none 0 0] 32 (pg) ?_
 intro v15 g16 O A B;replace U:=U.new O A B;clear O A B;refine ts (U.bk 0 rfl) 0 (.agg #[.slice v u s]) [.slice v u s] [.slice v u s] ?_
 intro v17 Y C;replace U:=U.put 0 rfl C Y (by decide);clear Y C;refine t 10 (.int .i64 (dvZ tk)) ?_
 refine ay (ah (ax ?_));replace U:=U.drew;refine cj (fun G=>Blk G g2 [.int .u64 rt,.int .u64 tk,.slice i f d,.bool jl,.int .u64 un,.bool bo,.int .u64 pe,.slice k e j,.slice q p r,.slice c a b] 39/\Blk G g16 [.slice v u s] 32) (fun _=>false) ⟨(U.bk 3 rfl),(U.bk 0 rfl)⟩ ?_
 refine z 0 25 (pg g) ?_
 refine z 1 26 (.int .u64 id) ?_
 refine z 2 27 (pq g2 6) ?_
 refine zl 3 28 (.int .u64 pe) (fun _ h=>h.1) 6 ?_
 refine z 4 29 (pg g) ?_
 refine z 5 30 (.int .u64 id) ?_
 refine z 6 31 (.int .u64 ((pe - 1) % 18446744073709551616)) ?_
 refine zlr 8 33 [.slice v u s] (fun _ h=>h.2) 0 ?_
 refine zc 7 32 49 #[pg g,.int .u64 id,.int .u64 ((pe - 1) % 18446744073709551616)] (wo U.ta.sx hid (by omega) (by omega)) ?_
 rintro _ v20 ⟨ai,ae,Z,rfl,zr18,K19,S,F,hC,Q,mr18,h⟩;have L:=U.lt;replace U:=(U.op S F hC).add L Q h;clear L S F hC Q h;refine⟨_,rfl,⟨(U.bk 3 rfl),(U.bk 0 rfl)⟩,?_⟩;refine zc 9 34 27 #[.agg #[.slice ai ae Z],.agg #[.slice v u s]] (y8 (U.nq 0 rfl).nat (by omega) (U.nq 1 rfl).nat (by omega)) ?_
 rintro _ v22 ⟨J,I,R,zq21,rfl,M,h,mq21,B⟩;have fq21:=ne3 h U.ta.size;replace U:=U.num M h B;clear M h B;refine⟨_,rfl,⟨(U.bk 3 rfl),(U.bk 0 rfl)⟩,?_⟩;refine zr 10 35 (.agg #[.slice J I R,.int .u64 1]) (by intro _ _; kernel_rfl) ?_
 refine zc 11 36 56 #[pg g,.int .u64 id,.int .u64 pe,.agg #[.slice J I R,.int .u64 1]] (p8 U.ta.sx hid (U.nq 0 rfl).nk (by omega) (by omega) (by omega)) ?_
 rintro _ v24 ⟨rfl,K23,S,F,hC⟩;replace U:=U.op S F hC;clear S F hC;refine⟨_,rfl,⟨(U.bk 3 rfl),(U.bk 0 rfl)⟩,?_⟩;refine bB (ah (aT [(0,pg g),(1,.int .u64 id),(5,pg g2),(6,pg g4),(7,pg g6),(8,.int .u64 ((pe - 1) % 18446744073709551616))] (by kernel_rfl) ?_));refine ax (aA (t 37 (pg g) ?_));refine t 38 (.int .u64 id) ?_
 refine t 39 (.int .u64 ((pe - 1) % 18446744073709551616)) ?_
 refine tc 40 57 #[pg g,.int .u64 id,.int .u64 ((pe - 1) % 18446744073709551616)] (vy U.ta.sx hid (by omega) (by omega)) ?_
 rintro _ v29 ⟨rfl,K25,n26,N27,S,qn26,qN27,F,hC⟩;refine⟨_,rfl,?_⟩;replace U:=U.op S F hC;clear S F hC;refine ay (ah (ax (aA (ta 11 [.slice none 0 0] 32 (pg) ?_))));intro v30 y D P B;replace U:=U.new D P B;clear D P B;refine ay (ah (ax (ax (aA (t 41 (pq g2 1) ?_)))));refine tl 42 (.int .u64 tk) (U.bk 4 rfl) 1 ?_
 by_cases x:(tk:Int)=0
 ·refine tq 43 (.bool ((tk:Int) == 0)) (.bool true) (congrArg Value.bool (beq_iff_eq.2 x)) ?_
  refine ay (ah (eA ?_));refine ax (aA (t 44 (pq g2 7) ?_));refine tlr 45 [.slice k e j] (U.bk 4 rfl) 7 ?_
  refine ts (U.bk 0 rfl) 0 (.agg #[.slice k e j]) [.slice k e j] [.slice k e j] ?_
  intro v33 Y C;replace U:=U.put 0 rfl C Y (by decide);clear Y C;refine ay (ah (aA (t 46 (pq g2 8) ?_)));refine tlr 47 [.slice q p r] (U.bk 4 rfl) 8 ?_
  refine t 48 (pq g2 7) ?_
  refine tlr 49 [.slice k e j] (U.bk 4 rfl) 7 ?_
  refine tc 50 52 #[.agg #[.slice q p r],.agg #[.slice k e j]] (qK (U.nq 4 rfl).nat (by omega) (U.nq 5 rfl).nat (by omega)) ?_
  rintro _ v35 ⟨l,m,o,zq34,rfl,M,h,mq34,B⟩;refine⟨_,rfl,?_⟩;have af:=ne3 h U.ta.size;replace U:=U.num M h B;clear M h B;refine t 51 (pq g2 8) ?_
  refine ts (U.bk 4 rfl) 8 (.agg #[.slice l m o]) [.slice l m o] [.int .u64 rt,.int .u64 tk,.slice i f d,.bool jl,.int .u64 un,.bool bo,.int .u64 pe,.slice k e j,.slice l m o,.slice c a b] ?_
  intro v36 Y C;replace U:=U.put 4 rfl C Y (by decide);clear Y C;refine ay (ah (aT [(5,pg g2),(6,pg g4),(7,pg g6),(11,pg y)] (by kernel_rfl) ?_));refine ax (aA (t 52 (pq g2 6) ?_));refine tl 53 (.int .u64 pe) (U.bk 4 rfl) 6 ?_
  refine tq 54 (.int .u64 (IntKind.u64.wrap (pe + 1))) (.int .u64 ((pe + 1) % 18446744073709551616)) (congrArg (Value.int .u64) (IntKind.wrap_u64 _)) ?_
  refine t 55 (pq g2 6) ?_
  refine ts (U.bk 4 rfl) 6 (.int .u64 ((pe + 1) % 18446744073709551616)) [.int .u64 ((pe + 1) % 18446744073709551616)] [.int .u64 rt,.int .u64 tk,.slice i f d,.bool jl,.int .u64 un,.bool bo,.int .u64 ((pe + 1) % 18446744073709551616),.slice k e j,.slice l m o,.slice c a b] ?_
  intro v37 Y C;replace U:=U.put 4 rfl C Y (by decide);clear Y C;refine ay (ah (ax (aA (t 56 (.agg #[.slice none 0 0]) ?_))));refine t 57 (pq g2 7) ?_
  refine ts (U.bk 4 rfl) 7 (.agg #[.slice none 0 0]) [.slice none 0 0] [.int .u64 rt,.int .u64 tk,.slice i f d,.bool jl,.int .u64 un,.bool bo,.int .u64 ((pe + 1) % 18446744073709551616),.slice none 0 0,.slice l m o,.slice c a b] ?_
  intro v38 Y C;replace U:=U.put 4 rfl C Y (by decide);clear Y C;refine ay (ah (ax ?_));replace U:=U.drew;refine cj (fun G=>Blk G g2 [.int .u64 rt,.int .u64 tk,.slice i f d,.bool jl,.int .u64 un,.bool bo,.int .u64 ((pe + 1) % 18446744073709551616),.slice none 0 0,.slice l m o,.slice c a b] 39/\Blk G y [.slice k e j] 32) (fun _=>false) ⟨(U.bk 4 rfl),(U.bk 0 rfl)⟩ ?_
  refine zlr 0 58 [.int .u64 rt,.int .u64 tk,.slice i f d,.bool jl,.int .u64 un,.bool bo,.int .u64 ((pe + 1) % 18446744073709551616),.slice none 0 0,.slice l m o,.slice c a b] (fun _ h=>h.1) 0 ?_
  refine zlr 1 59 [.slice k e j] (fun _ h=>h.2) 0 ?_
  refine zs 2 (U.bk 3 rfl) 0 (.agg #[.int .u64 rt,.int .u64 tk,.slice i f d,.bool jl,.int .u64 un,.bool bo,.int .u64 ((pe + 1) % 18446744073709551616),.slice none 0 0,.slice l m o,.slice c a b]) [.int .u64 rt,.int .u64 tk,.slice i f d,.bool jl,.int .u64 un,.bool bo,.int .u64 ((pe + 1) % 18446744073709551616),.slice none 0 0,.slice l m o,.slice c a b] [.int .u64 rt,.int .u64 tk,.slice i f d,.bool jl,.int .u64 un,.bool bo,.int .u64 ((pe + 1) % 18446744073709551616),.slice none 0 0,.slice l m o,.slice c a b] ?_
  intro v39 Y C;replace U:=U.put 3 rfl C Y (by decide);clear Y C;refine⟨⟨(U.bk 4 rfl),(U.bk 0 rfl)⟩,?_⟩;refine zs 3 (U.bk 2 rfl) 0 (.agg #[.slice k e j]) [.slice k e j] [.slice k e j] ?_
  intro v40 Y C;replace U:=U.put 2 rfl C Y (by decide);clear Y C;refine⟨⟨(U.bk 4 rfl),(U.bk 0 rfl)⟩,?_⟩;refine bB (ah (aP (aQ (.tuple #[.agg #[.int .u64 rt,.int .u64 tk,.slice i f d,.bool jl,.int .u64 un,.bool bo,.int .u64 ((pe + 1) % 18446744073709551616),.slice none 0 0,.slice l m o,.slice c a b],.agg #[.slice k e j]]) (rscc 6 7 (T:=39) (T2:=32) (by kernel_rfl) (by kernel_rfl) (by kernel_rfl) (lr (U.bk 3 rfl) 0) (lr (U.bk 2 rfl) 0)) ?_)));exact⟨_,_,_,_,_,_,_,_,_,_,_,_,_,_,_,_,_,_,_,rfl,U.ta.sx,by omega,by omega,U.ta.km,U.ta.cc,(U.nq 7 rfl),by omega,ag,(U.nq 6 rfl).eqv (if_pos x).symm,by omega,fv8,(U.nq 0 rfl).eqv (if_pos x).symm,by omega,af,(U.nq 4 rfl),by omega,H⟩
 ·refine tq 43 (.bool ((tk:Int) == 0)) (.bool false) (congrArg Value.bool (beq_eq_false_iff_ne.2 x)) ?_
  refine ay (ah (dR ?_));refine bX (ah (ax (aA (t 52 (pq g2 6) ?_))));refine tl 53 (.int .u64 pe) (U.bk 4 rfl) 6 ?_
  refine tq 54 (.int .u64 (IntKind.u64.wrap (pe + 1))) (.int .u64 ((pe + 1) % 18446744073709551616)) (congrArg (Value.int .u64) (IntKind.wrap_u64 _)) ?_
  refine t 55 (pq g2 6) ?_
  refine ts (U.bk 4 rfl) 6 (.int .u64 ((pe + 1) % 18446744073709551616)) [.int .u64 ((pe + 1) % 18446744073709551616)] [.int .u64 rt,.int .u64 tk,.slice i f d,.bool jl,.int .u64 un,.bool bo,.int .u64 ((pe + 1) % 18446744073709551616),.slice k e j,.slice q p r,.slice c a b] ?_
  intro v41 Y C;replace U:=U.put 4 rfl C Y (by decide);clear Y C;refine ay (ah (aT [(5,pg g2),(6,pg g4),(7,pg g6),(11,pg y)] (by kernel_rfl) ?_));refine ax (aA (t 56 (.agg #[.slice none 0 0]) ?_));refine t 57 (pq g2 7) ?_
  refine ts (U.bk 4 rfl) 7 (.agg #[.slice none 0 0]) [.slice none 0 0] [.int .u64 rt,.int .u64 tk,.slice i f d,.bool jl,.int .u64 un,.bool bo,.int .u64 ((pe + 1) % 18446744073709551616),.slice none 0 0,.slice q p r,.slice c a b] ?_
  intro v42 Y C;replace U:=U.put 4 rfl C Y (by decide);clear Y C;refine ay (ah (ax ?_));replace U:=U.drew;refine cj (fun G=>Blk G g2 [.int .u64 rt,.int .u64 tk,.slice i f d,.bool jl,.int .u64 un,.bool bo,.int .u64 ((pe + 1) % 18446744073709551616),.slice none 0 0,.slice q p r,.slice c a b] 39/\Blk G y [.slice none 0 0] 32) (fun _=>false) ⟨(U.bk 4 rfl),(U.bk 0 rfl)⟩ ?_
  refine zlr 0 58 [.int .u64 rt,.int .u64 tk,.slice i f d,.bool jl,.int .u64 un,.bool bo,.int .u64 ((pe + 1) % 18446744073709551616),.slice none 0 0,.slice q p r,.slice c a b] (fun _ h=>h.1) 0 ?_
  refine zlr 1 59 [.slice none 0 0] (fun _ h=>h.2) 0 ?_
  refine zs 2 (U.bk 3 rfl) 0 (.agg #[.int .u64 rt,.int .u64 tk,.slice i f d,.bool jl,.int .u64 un,.bool bo,.int .u64 ((pe + 1) % 18446744073709551616),.slice none 0 0,.slice q p r,.slice c a b]) [.int .u64 rt,.int .u64 tk,.slice i f d,.bool jl,.int .u64 un,.bool bo,.int .u64 ((pe + 1) % 18446744073709551616),.slice none 0 0,.slice q p r,.slice c a b] [.int .u64 rt,.int .u64 tk,.slice i f d,.bool jl,.int .u64 un,.bool bo,.int .u64 ((pe + 1) % 18446744073709551616),.slice none 0 0,.slice q p r,.slice c a b] ?_
  intro v43 Y C;replace U:=U.put 3 rfl C Y (by decide);clear Y C;refine⟨⟨(U.bk 4 rfl),(U.bk 0 rfl)⟩,?_⟩;refine zs 3 (U.bk 2 rfl) 0 (.agg #[.slice none 0 0]) [.slice none 0 0] [.slice none 0 0] ?_
  intro v44 Y C;replace U:=U.put 2 rfl C Y (by decide);clear Y C;refine⟨⟨(U.bk 4 rfl),(U.bk 0 rfl)⟩,?_⟩;refine bB (ah (aP (aQ (.tuple #[.agg #[.int .u64 rt,.int .u64 tk,.slice i f d,.bool jl,.int .u64 un,.bool bo,.int .u64 ((pe + 1) % 18446744073709551616),.slice none 0 0,.slice q p r,.slice c a b],.agg #[.slice none 0 0]]) (rscc 6 7 (T:=39) (T2:=32) (by kernel_rfl) (by kernel_rfl) (by kernel_rfl) (lr (U.bk 3 rfl) 0) (lr (U.bk 2 rfl) 0)) ?_)));exact⟨_,_,_,_,none,0,0,0,_,_,_,_,_,_,_,_,_,_,_,rfl,U.ta.sx,by omega,by omega,U.ta.km,U.ta.cc,(U.nq 6 rfl),by omega,ag,(cJ _ _).eqv (if_neg x).symm,by omega,.inl rfl,(U.nq 4 rfl).eqv (if_neg x).symm,by omega,fv9,(U.nq 3 rfl),by omega,H⟩
end
end Fo
end
end Go.Proofs.YthfepflplbahkaaGreatDoor
