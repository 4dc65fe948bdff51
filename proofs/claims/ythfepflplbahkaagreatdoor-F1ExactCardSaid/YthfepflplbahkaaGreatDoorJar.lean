import Derived.Test.YthfepflplbahkaaGreatDoorJaq
set_option maxRecDepth 100000
set_option maxHeartbeats 8000000
namespace Go.Proofs.YthfepflplbahkaaGreatDoor
section
namespace Fo
open Go.RowKit Go.Lib Pg Lim Gl Kv Bk Pw
set_option linter.unusedVariables false
theorem vq {w:World} {K K':Nat->Prop} {x:Nat} {cs:List Value} {t:TypeId} (X:Blk w x cs t) (h:¬ K x) (hK:∀ b,K' b->K b\/w.heap.size<=b):¬ K' x:=fun q=>(hK x q).elim h (fun q=>by have:=X.lt; omega)
abbrev Bx:=Nat × List Value × TypeId
abbrev Nx:=Nat × Option Addr × Nat × Nat × Int
structure Ut (w0:World) (K0:Nat->Prop) (B g0:Nat) (W:List aE) (w:World) (K:Nat->Prop) (E:aE) (n N:Nat) (bs:List Bx) (qs:List Nx):Prop where
 ta:Bk.At B w0 K0 w K g0 E W n N
 b:∀ p∈bs,Blk w p.1 p.2.1 p.2.2/\¬ K p.1/\w0.heap.size<=p.1
 q:∀ r∈qs,Nq w K r.1 r.2.1 r.2.2.1 r.2.2.2.1 r.2.2.2.2
 e:∀ p∈bs,∀ r∈qs,r.2.2.1=0\/r.1≠p.1
 d:bs.Pairwise (fun a b=>a.1≠b.1)
section
variable {w0 w w':World} {B g0 n N n' N' g i:Nat} {K0 K K':Nat->Prop} {W:List aE} {E E':aE} {bs:List Bx} {qs:List Nx} {cs cs':List Value} {t:TypeId}
section
variable {z k d:Nat}{a:Option Addr}{x:Int}
theorem Ut.lt(h:Ut w0 K0 B g0 W w K E n N bs qs):∀ p∈bs,p.1 < w.heap.size:=fun p hp=>(h.b p hp).1.lt
theorem yn(h:Sx B w K g0 E W n N):Ut w K B g0 W w K E n N [] []:=⟨h.at,fun _ h=>(List.not_mem_nil h).elim,fun _ h=>(List.not_mem_nil h).elim,fun _ h=>(List.not_mem_nil h).elim,List.Pairwise.nil⟩
theorem Ut.keep(h:Ut w0 K0 B g0 W w K E n N bs qs)(b:Below w.heap.size w w'):Ut w0 K0 B g0 W w' K E n N bs qs:=⟨h.ta.keep b,fun p a=>⟨(h.b p a).1.keep b,(h.b p a).2⟩,fun r c=>(h.q r c).keep b,h.e,h.d⟩
theorem Ut.drew(h:Ut w0 K0 B g0 W w K E n N bs qs):Ut w0 K0 B g0 W w.drew K E n N bs qs:=h.keep (Below.refl _ _).drew
theorem Ut.op(h:Ut w0 K0 B g0 W w K E n N bs qs)(S:Sx B w' K' g0 E' W n' N')(c:∀ b,K' b->K b\/w.heap.size<=b)(hC:Chg K w w'):Ut w0 K0 B g0 W w' K' E' n' N' bs qs:=⟨h.ta.op S c hC,fun p a=>⟨(h.b p a).1.chg hC (h.b p a).2.1,vq (h.b p a).1 (h.b p a).2.1 c,(h.b p a).2.2⟩,fun r f=>(h.q r f).op c hC,h.e,h.d⟩
theorem Ut.add{s:Nat}(h:Ut w0 K0 B g0 W w K E n N bs qs)(L:∀ p∈bs,p.1 < s)(Q:Nq w K z a k d x)(f:k=0\/s<=z):Ut w0 K0 B g0 W w K E n N bs ((z,a,k,d,x) :: qs):=⟨h.ta,h.b,List.forall_mem_cons.2 ⟨Q,h.q⟩,fun p c=>List.forall_mem_cons.2 ⟨f.imp_right (fun q e=>by have:=L p c; have g:z=p.1:=e; omega),h.e p c⟩,h.d⟩
theorem Ut.num(h:Ut w0 K0 B g0 W w K E n N bs qs)(M:Nf w' z a k d x)(c:k=0\/w.heap.size<=z)(b:Below w.heap.size w w'):Ut w0 K0 B g0 W w' K E n N bs ((z,a,k,d,x) :: qs):=(h.keep b).add h.lt (eu h.ta.sx M c) c
theorem Ut.new(h:Ut w0 K0 B g0 W w K E n N bs qs)(X:Blk w' g cs t)(a:w.heap.size<=g)(b:Below w.heap.size w w'):Ut w0 K0 B g0 W w' K E n N ((g,cs,t) :: bs) qs:=by
 have u:=h.keep b;refine⟨u.ta,List.forall_mem_cons.2 ⟨⟨X,fun q=>by have:=h.ta.sx.sa.lt q; omega,Nat.le_trans h.ta.size a⟩,u.b⟩,u.q,List.forall_mem_cons.2 ⟨fun r f=>ne1 (h.q r f).lt a,u.e⟩,List.pairwise_cons.2 ⟨fun p c e=>by have:=h.lt p c; have i:g=p.1:=e; omega,u.d⟩⟩
theorem Ut.bk(h:Ut w0 K0 B g0 W w K E n N bs qs)(i:Nat)(hi:bs[i]? = some (g,cs,t)):Blk w g cs t:=(h.b _ (List.mem_of_getElem? hi)).1
theorem Ut.nq(h:Ut w0 K0 B g0 W w K E n N bs qs)(i:Nat)(hi:qs[i]? = some (z,a,k,d,x)):Nq w K z a k d x:=h.q _ (List.mem_of_getElem? hi)
theorem fZ{p q:Bx}:∀ {bs:List Bx} {i:Nat},p∈bs.set i q->p=q\/p∈bs
 | [],_,h=>.inr h
 | b :: bs,0,h=>(List.mem_cons.1 h).imp id (List.mem_cons_of_mem _)
 | b :: bs,i + 1,h=>(List.mem_cons.1 h).elim (fun e=>.inr (e▸List.mem_cons_self)) (fun h=>(fZ h).imp id (List.mem_cons_of_mem _))
theorem tO{q : Bx} : ∀ {bs : List Bx} {i : Nat}, bs.Pairwise (fun a b => a.1 ≠ b.1) → (hi : bs[i]? = some (g, cs, t)) → q.1 = g → (bs.set i q).Pairwise (fun a b => a.1 ≠ b.1) ∧ ∀ p ∈ bs.set i q, p ≠ q → p.1 ≠ g
  | [], _, _, hi, _ => by simp at hi
  | b :: bs, 0, hd, hi, hq => by
    have e : b = (g, cs, t) := by simpa using hi
    have d := List.pairwise_cons.1 hd;subst e;refine⟨List.pairwise_cons.2 ⟨fun p c => by rw[hq]; exact d.1 p c, d.2⟩, fun p c hn => ?_⟩;rcases List.mem_cons.1 c with h | h
    · exact absurd h hn
    · exact(d.1 p h).symm
  | b :: bs, i + 1, hd, hi, hq => by
    have d := List.pairwise_cons.1 hd
    have f : bs[i]? = some (g, cs, t) := by simpa using hi
    obtain⟨r1, j⟩:= tO d.2 f hq
    have hb : b.1 ≠ g := d.1 _ (List.mem_of_getElem? f);refine⟨List.pairwise_cons.2 ⟨fun p c => ?_, r1⟩, fun p c hn => ?_⟩
    · rcases fZ c with h | h
      · rw[h, hq]; exact hb
      · exact d.1 p h
    · rcases List.mem_cons.1 c with h | h
      · rw[h]; exact hb
      · exact j p h hn
theorem Ut.put(h:Ut w0 K0 B g0 W w K E n N bs qs)(i:Nat)(hi:bs[i]? = some (g,cs,t))(C:Chg (· = g) w w')(Y:Blk w' g cs' t)(f:t≠5):Ut w0 K0 B g0 W w' K E n N (bs.set i (g,cs',t)) qs:=by
 have hm:=List.mem_of_getElem? hi;obtain⟨X,nk,y⟩:=h.b _ hm;obtain⟨r1,j⟩:=tO (q:=(g,cs',t)) h.d hi rfl;refine⟨Bk.At.cell h.ta X C y nk f,fun p a => ?_,fun r c=>(h.q r c).cell C (h.e _ hm r c),fun p a => ?_,r1⟩
 ·by_cases e:p=(g,cs',t)
  ·subst e;exact⟨Y,nk,y⟩
  ·rcases fZ a with q | q
   ·exact absurd q e
   ·exact⟨(h.b p q).1.chg C (j p a e),(h.b p q).2⟩
 ·rcases fZ a with q | q
  ·rw[q]
   show ∀ r∈qs,r.2.2.1=0\/r.1≠g
   exact h.e _ hm
  ·exact h.e p q
end
end
end Fo
end
section
namespace Fo
open Go.RowKit Go.Lib Pg Lim Gl Kv Bk Pw
section
variable {n g B N n0 c0 z0 n1 c1 z1 n2 c2 z2 n3 c3 z3:Nat}{w:World}{K:Nat->Prop}{E:aE}{W:List aE}{rt tk un pe id x0 x1 x2 x3:Int}{jl bo:Bool}{a0 a1 a2 a3 a4 a5 ao:Option Addr}
attribute [local go_sem] Oper.semAt_some
set_option linter.unusedVariables false
set_option linter.unusedSimpArgs false
theorem rscc{l:Fr}{P:Program}{fn:Func}(j k:Nat){T T2:TypeId}{g2:Nat}{u v:Value}(h:fn.results=#[.cell j T,.cell k T2])(hu:lk l j=some (.pointer (some ⟨g,0,none⟩)))(hv:lk l k=some (.pointer (some ⟨g2,0,none⟩)))(e:(loadVar T ⟨g,0,none⟩).run P w=.ok u w)(b:(loadVar T2 ⟨g2,0,none⟩).run P w=.ok v w)(a:Act)(r:Rd n [] l a):(results fn a.tmps).run P w=.ok (.tuple #[u,v]) w:=by
 have c:=r.gD hu;have d:=r.gD hv;simp at c d;simp[results,h,c,d,asAddr,e,b]
theorem dm(w:World)(K:Nat->Prop):Nq w K 0 none 0 0 0:=⟨.inl rfl,.inl rfl,(lX w 0).to⟩
structure StE(B:Nat)(w:World)(K:Nat->Prop)(g:Nat)(E:aE)(W:List aE)(n N:Nat)(rt tk:Int)(jl:Bool)(un:Int)(bo:Bool)(id x0 x2 x3:Int)(n0 n2 n3:Nat)(e:Ending)(w':World):Prop where
 ex:∃ b0 k0 d0 y0 b2 k2 d2 y2 b3 k3 d3 y3 K' n' N',e=.returned (.agg #[.int .u64 rt,.int .u64 tk,.slice b0 k0 d0,.bool jl,.int .u64 un,.bool bo,.int .u64 1,.slice none 0 0,.slice b2 k2 d2,.slice b3 k3 d3])/\Sx B w' K' g (dz E id 0) W n' N'/\n'<=n + 10/\N'<=N + 10/\(∀ b,K' b->K b\/w.heap.size<=b)/\Chg K w w'/\Nq w' K' y0 b0 k0 d0 (x0)/\k0<=n0 + 1/\(k0=0\/w.heap.size<=y0)/\Nq w' K' y2 b2 k2 d2 (x2)/\k2<=n2 + 1/\(k2=0\/w.heap.size<=y2)/\Nq w' K' y3 b3 k3 d3 (x3)/\k3<=n3 + 1/\(k3=0\/w.heap.size<=y3)
theorem oE(h:Sx B w K g E W n N)(hid:0<=id/\id < 18446744073709551616)(Z:Nk w K z0 a0 n0 c0 x0)(m0:n0<=100000)(Q1:Nk w K z1 a1 n1 c1 x1)(m1:n1<=100000)(Q2:Nk w K z2 a2 n2 c2 x2)(m2:n2<=100000)(X:Nk w K z3 a3 n3 c3 x3)(m3:n3<=100000)(hn:n + 40<=4000000000000000000)(hN:N + 40<=100000000):Calls Tryz.prog 17 #[pg g,.int .u64 id,.agg #[.int .u64 rt,.int .u64 tk,.slice a0 n0 c0,.bool jl,.int .u64 un,.bool bo,.int .u64 pe,.slice a1 n1 c1,.slice a2 n2 c2,.slice a3 n3 c3]] w (StE B w K g E W n N rt tk jl un bo id x0 x2 x3 n0 n2 n3):=by
 have U:=yn h;refine aO (n:=16) Tryz.func17 rfl (by kernel_rfl) (by kernel_rfl) ?_
 refine ax (aA (ta 5 [.int .u64 rt,.int .u64 tk,.slice a0 n0 c0,.bool jl,.int .u64 un,.bool bo,.int .u64 pe,.slice a1 n1 c1,.slice a2 n2 c2,.slice a3 n3 c3] 39 (pg) ?_));intro v1 g2 q p B;replace U:=U.new q p B;clear q p B;refine ta 6 [.int .u64 0,.int .u64 0,.slice none 0 0,.bool false,.int .u64 0,.bool false,.int .u64 0,.slice none 0 0,.slice none 0 0,.slice none 0 0] 39 (pg) ?_
 intro v3 g4 r s B;replace U:=U.new r s B;clear r s B;refine ay (ah (ax (aA (tlr 7 [.int .u64 rt,.int .u64 tk,.slice a0 n0 c0,.bool jl,.int .u64 un,.bool bo,.int .u64 pe,.slice a1 n1 c1,.slice a2 n2 c2,.slice a3 n3 c3] (U.bk 1 rfl) 0 ?_))));refine tc 8 44 #[.agg #[.int .u64 rt,.int .u64 tk,.slice a0 n0 c0,.bool jl,.int .u64 un,.bool bo,.int .u64 pe,.slice a1 n1 c1,.slice a2 n2 c2,.slice a3 n3 c3]] (jc (Z.op U.ta.km U.ta.cc).nat (by omega) (Q1.op U.ta.km U.ta.cc).nat (by omega) (Q2.op U.ta.km U.ta.cc).nat (by omega) (X.op U.ta.km U.ta.cc).nat (by omega)) ?_
 rintro _ v9 ⟨b,e,c,P,o,l,m,Q,d,i,f,ab,a,j,k,M,rfl,H,y,ac,I,u,mv6,M2,x,J,G,v,O,B⟩;refine⟨_,rfl,?_⟩;have A:=ne3 y U.ta.size;have aa:=ne3 u U.ta.size;have D:=ne3 x U.ta.size;have z:=ne3 v U.ta.size;have L:=U.lt;replace U:=((((U.keep B).add L (eu U.ta.sx H y) y).add L (eu U.ta.sx I u) u).add L (eu U.ta.sx M2 x) x).add L (eu U.ta.sx G v) v;clear L B H y I u M2 x G v;refine ts (U.bk 1 rfl) 0 (.agg #[.int .u64 rt,.int .u64 tk,.slice b e c,.bool jl,.int .u64 un,.bool bo,.int .u64 pe,.slice o l m,.slice d i f,.slice a j k]) [.int .u64 rt,.int .u64 tk,.slice b e c,.bool jl,.int .u64 un,.bool bo,.int .u64 pe,.slice o l m,.slice d i f,.slice a j k] [.int .u64 rt,.int .u64 tk,.slice b e c,.bool jl,.int .u64 un,.bool bo,.int .u64 pe,.slice o l m,.slice d i f,.slice a j k] ?_
 intro v10 Y C;replace U:=U.put 1 rfl C Y (by decide);clear Y C;refine ay (ah (ax (aA (t 9 (.agg #[.slice none 0 0]) ?_))));refine t 10 (pq g2 6) ?_
 refine ts (U.bk 1 rfl) 6 (.int .u64 1) [.int .u64 1] [.int .u64 rt,.int .u64 tk,.slice b e c,.bool jl,.int .u64 un,.bool bo,.int .u64 1,.slice o l m,.slice d i f,.slice a j k] ?_
 intro v11 Y C;replace U:=U.put 1 rfl C Y (by decide);clear Y C;refine t 11 (pq g2 7) ?_
 refine ts (U.bk 1 rfl) 7 (.agg #[.slice none 0 0]) [.slice none 0 0] [.int .u64 rt,.int .u64 tk,.slice b e c,.bool jl,.int .u64 un,.bool bo,.int .u64 1,.slice none 0 0,.slice d i f,.slice a j k] ?_
 intro v12 Y C;replace U:=U.put 1 rfl C Y (by decide);clear Y C;refine ay (ah (ax (aA (t 12 (pg g) ?_))));refine t 13 (.int .u64 id) ?_
 refine tc 14 45 #[pg g,.int .u64 id,.int .u64 0] (j8 U.ta.sx hid (by omega) (by omega)) ?_
 rintro _ v14 ⟨rfl,R,S,F,hC⟩;refine⟨_,rfl,?_⟩;replace U:=U.op S F hC;clear S F hC;refine ay (ah (aY [(5,pg g2),(6,pg g4)] (by kernel_rfl) ?_));refine ax (aA (tlr 15 [.int .u64 rt,.int .u64 tk,.slice b e c,.bool jl,.int .u64 un,.bool bo,.int .u64 1,.slice none 0 0,.slice d i f,.slice a j k] (U.bk 1 rfl) 0 ?_));refine ts (U.bk 0 rfl) 0 (.agg #[.int .u64 rt,.int .u64 tk,.slice b e c,.bool jl,.int .u64 un,.bool bo,.int .u64 1,.slice none 0 0,.slice d i f,.slice a j k]) [.int .u64 rt,.int .u64 tk,.slice b e c,.bool jl,.int .u64 un,.bool bo,.int .u64 1,.slice none 0 0,.slice d i f,.slice a j k] [.int .u64 rt,.int .u64 tk,.slice b e c,.bool jl,.int .u64 un,.bool bo,.int .u64 1,.slice none 0 0,.slice d i f,.slice a j k] ?_
 intro V Y C;replace U:=U.put 0 rfl C Y (by decide);clear Y C;refine ay (ah (aV (aW (.agg #[.int .u64 rt,.int .u64 tk,.slice b e c,.bool jl,.int .u64 un,.bool bo,.int .u64 1,.slice none 0 0,.slice d i f,.slice a j k]) (rsc 6 (T:=39) (by kernel_rfl) (by kernel_rfl) (lr (U.bk 0 rfl) 0)) ?_)));exact⟨_,_,_,_,_,_,_,_,_,_,_,_,_,_,_,rfl,U.ta.sx,by omega,by omega,U.ta.km,U.ta.cc,(U.nq 3 rfl),by omega,A,(U.nq 1 rfl),by omega,D,(U.nq 0 rfl),by omega,z⟩
theorem yl{p:Int}(h:Sx B w K g E W n N)(hid:0<=id/\id < 18446744073709551616)(d:Nk w K z0 a0 n0 c0 x0)(m0:n0<=100000)(f:Nk w K z1 a1 n1 c1 x1)(m1:n1<=100000)(hn:n + 40<=4000000000000000000)(u:N + 40<=100000000):Calls Tryz.prog 33 #[pg g,.int .u64 id,.agg #[.slice a0 n0 c0,.int .u64 p,.slice a1 n1 c1]] w (SxF B w K g (letE E id p) W n N (.tuple #[])):=by
 have A:=h.at
 refine aO (n:=11) Tryz.func33 rfl (by kernel_rfl) (by kernel_rfl) ?_
 refine ax (aA (ta 5 [.slice a0 n0 c0,.int .u64 p,.slice a1 n1 c1] 54 (pg) ?_));intro v1 g2 c b B;have k:=Nat.le_trans A.size b;have a:=A.new b;have i:=ne1 d.lt b;have j:=ne1 f.lt b;replace A:=A.keep B;replace d:=d.keep B;replace f:=f.keep B;clear B;refine ay (ah (aA (t 6 (pg g) ?_)));refine t 7 (.int .u64 id) ?_
 refine t 8 (pq g2 1) ?_
 refine tl 9 (.int .u64 p) c 1 ?_
 refine tc 10 57 #[pg g,.int .u64 id,.int .u64 p] (u5 A.sx hid (by omega) (by omega)) ?_
 rintro _ s ⟨rfl,q,r,o,S,m,l,e,hC⟩;refine⟨_,rfl,?_⟩;replace d:=d.op e hC;replace f:=f.op e hC;replace a:=opX c a e hC;replace c:=a.1;replace a:=a.2;replace A:=A.op S e hC;clear S e hC;refine ay (iU (.tuple #[]) (rs0 (by kernel_rfl)) ?_);exact⟨rfl,_,_,_,A.sx,by omega,by omega,A.km,A.cc⟩
structure HoE(B:Nat)(w:World)(K:Nat->Prop)(g:Nat)(E:aE)(W:List aE)(n N:Nat)(tk pe id x0 x4:Int)(n0 n4:Nat)(e:Ending)(w':World):Prop where
 ex:∃ b0 k0 d0 y0 b1 k1 d1 y1 K' n' N',e=.returned (.agg #[.slice b0 k0 d0,.int .u64 ((pe - 1) % 18446744073709551616),.slice b1 k1 d1])/\Sx B w' K' g (dz E id ((pe - 1) % 18446744073709551616)) W n' N'/\n'<=n + 10/\N'<=N + 10/\(∀ b,K' b->K b\/w.heap.size<=b)/\Chg K w w'/\Nq w' K' y0 b0 k0 d0 (x4)/\k0<=n4 + 1/\(k0=0\/w.heap.size<=y0)/\Nq w' K' y1 b1 k1 d1 (x4 * (tk * U36) / x0)/\k1<=n0 + n4 + 40/\(k1=0\/w.heap.size<=y1)
theorem jA{v:Int}{n4 c4 z4:Nat}{x4:Int}{m r z5:Nat}{J:Int}(h:Sx B w K g E W n N)(hid:0<=id/\id < 18446744073709551616)(s:0<=tk/\tk < 18446744073709551616)(I:Nk w K z0 a0 n0 c0 x0)(m0:n0<=100000)(P:Nk w K z1 a1 n1 c1 x1)(m1:n1<=100000)(X:Nk w K z2 a2 n2 c2 x2)(m2:n2<=100000)(R:Nk w K z3 a3 n3 c3 x3)(m3:n3<=100000)(F:Nk w K z4 a4 n4 c4 x4)(m4:n4<=100000)(Q:Nk w K z5 a5 m r J)(m5:m<=100000)(hn:n + 40<=4000000000000000000)(Z:N + 40<=100000000):Calls Tryz.prog 19 #[pg g,.int .u64 id,.agg #[.int .u64 rt,.int .u64 tk,.slice a0 n0 c0,.bool jl,.int .u64 un,.bool bo,.int .u64 pe,.slice a1 n1 c1,.slice a2 n2 c2,.slice a3 n3 c3],.agg #[.slice a4 n4 c4,.int .u64 v,.slice a5 m r]] w (HoE B w K g E W n N tk pe id x0 x4 n0 n4):=by
 have U:=yn h;refine aO (n:=29) Tryz.func19 rfl (by kernel_rfl) (by kernel_rfl) ?_
 refine ax (aA (ta 6 [.int .u64 rt,.int .u64 tk,.slice a0 n0 c0,.bool jl,.int .u64 un,.bool bo,.int .u64 pe,.slice a1 n1 c1,.slice a2 n2 c2,.slice a3 n3 c3] 39 (pg) ?_));intro v1 g2 l k B;replace U:=U.new l k B;clear l k B;refine ta 7 [.slice a4 n4 c4,.int .u64 v,.slice a5 m r] 54 (pg) ?_
 intro v3 g4 o q B;replace U:=U.new o q B;clear o q B;refine ta 8 [.slice none 0 0,.int .u64 0,.slice none 0 0] 54 (pg) ?_
 intro v5 g6 i p B;replace U:=U.new i p B;clear i p B;refine ay (ah (ax (aA (t 10 (pq g2 6) ?_))));refine tl 11 (.int .u64 pe) (U.bk 2 rfl) 6 ?_
 refine tq 12 (.int .u64 (IntKind.u64.wrap (pe - 1))) (.int .u64 ((pe - 1) % 18446744073709551616)) (congrArg (Value.int .u64) (IntKind.wrap_u64 _)) ?_
 refine t 9 (.int .u64 ((pe - 1) % 18446744073709551616)) ?_
 refine ay (ah (ax (aA (t 13 (pg g) ?_))));refine t 14 (.int .u64 id) ?_
 refine t 15 (.int .u64 ((pe - 1) % 18446744073709551616)) ?_
 refine tc 16 45 #[pg g,.int .u64 id,.int .u64 ((pe - 1) % 18446744073709551616)] (j8 U.ta.sx hid (by omega) (by omega)) ?_
 rintro _ O ⟨rfl,V,S,x,hC⟩;refine⟨_,rfl,?_⟩;replace U:=U.op S x hC;clear S x hC;refine ay (ah (aY [(6,pg g2),(7,pg g4),(8,pg g6),(9,.int .u64 ((pe - 1) % 18446744073709551616))] (by kernel_rfl) ?_));refine ax ?_
 replace U:=U.drew;refine cA (fun D=>Blk D g4 [.slice a4 n4 c4,.int .u64 v,.slice a5 m r] 54/\Blk D g2 [.int .u64 rt,.int .u64 tk,.slice a0 n0 c0,.bool jl,.int .u64 un,.bool bo,.int .u64 pe,.slice a1 n1 c1,.slice a2 n2 c2,.slice a3 n3 c3] 39) (fun _=>false) ⟨(U.bk 1 rfl),(U.bk 2 rfl)⟩ ?_
 refine z 0 17 (pg g4) ?_
 refine zlr 1 18 [.slice a4 n4 c4] (fun _ h=>h.1) 0 ?_
 refine z 3 20 (.int .u64 ((pe - 1) % 18446744073709551616)) ?_
 refine z 4 21 (pq g2 1) ?_
 refine zl 5 22 (.int .u64 tk) (fun _ h=>h.2) 1 ?_
 refine z 6 23 (pq g2 2) ?_
 refine zlr 7 24 [.slice a0 n0 c0] (fun _ h=>h.2) 2 ?_
 refine z 8 25 (pg g4) ?_
 refine zlr 9 26 [.slice a4 n4 c4] (fun _ h=>h.1) 0 ?_
 refine zc 2 19 47 #[.agg #[.slice a4 n4 c4]] (jM (F.op U.ta.km U.ta.cc).nat (by omega)) ?_
 rintro _ v10 ⟨e,f,d,L,rfl,M,h,H,B⟩;have u:=ne3 h U.ta.size;replace U:=U.num M h B;clear M h B;refine⟨_,rfl,⟨(U.bk 1 rfl),(U.bk 2 rfl)⟩,?_⟩;refine zc 10 27 48 #[.int .u64 tk,.agg #[.slice a0 n0 c0],.agg #[.slice a4 n4 c4]] (wS (I.op U.ta.km U.ta.cc).nat (by omega) (F.op U.ta.km U.ta.cc).nat (by omega) s) ?_
 rintro _ v12 ⟨c,b,a,A,rfl,M,h,y,B⟩;have j:=ne3 h U.ta.size;replace U:=U.num M h B;clear M h B;refine⟨_,rfl,⟨(U.bk 1 rfl),(U.bk 2 rfl)⟩,?_⟩;refine zr 11 28 (.agg #[.slice e f d,.int .u64 ((pe - 1) % 18446744073709551616),.slice c b a]) (by intro _ _; kernel_rfl) ?_
 refine zs 12 (U.bk 0 rfl) 0 (.agg #[.slice e f d,.int .u64 ((pe - 1) % 18446744073709551616),.slice c b a]) [.slice e f d,.int .u64 ((pe - 1) % 18446744073709551616),.slice c b a] [.slice e f d,.int .u64 ((pe - 1) % 18446744073709551616),.slice c b a] ?_
 intro G Y C;replace U:=U.put 0 rfl C Y (by decide);clear Y C;refine⟨⟨(U.bk 1 rfl),(U.bk 2 rfl)⟩,?_⟩;refine bC (ah (aY [(8,pg g6)] (by kernel_rfl) ?_));refine aV (aW (.agg #[.slice e f d,.int .u64 ((pe - 1) % 18446744073709551616),.slice c b a]) (rsc 8 (T:=54) (by kernel_rfl) (by kernel_rfl) (lr (U.bk 0 rfl) 0)) ?_);exact⟨_,_,_,_,_,_,_,_,_,_,_,rfl,U.ta.sx,by omega,by omega,U.ta.km,U.ta.cc,(U.nq 1 rfl),by omega,u,(U.nq 0 rfl),by omega,j⟩
def Dr(E:aE)(id p b a:Int):aE:=dz (put E (Ky.mk 8 id p) (cv b a)) id p
structure CuE(B:Nat)(w:World)(K:Nat->Prop)(g:Nat)(E:aE)(W:List aE)(n N:Nat)(rt tk:Int)(jl:Bool)(un:Int)(bo:Bool)(pe id af x0 x1 x2 x3:Int)(n0 n1 n2 n3:Nat)(e:Ending)(w':World):Prop where
 ex:∃ b0 k0 d0 y0 b1 k1 d1 y1 b2 k2 d2 y2 b3 k3 d3 y3 K' n' N',e=.returned (.agg #[.int .u64 rt,.int .u64 af,.slice b0 k0 d0,.bool jl,.int .u64 un,.bool bo,.int .u64 pe,.slice b1 k1 d1,.slice b2 k2 d2,.slice b3 k3 d3])/\Sx B w' K' g (Dr E id ((pe - 1) % 18446744073709551616) tk af) W n' N'/\n'<=n + 10/\N'<=N + 10/\(∀ b,K' b->K b\/w.heap.size<=b)/\Chg K w w'/\Nq w' K' y0 b0 k0 d0 (x0)/\k0<=n0 + 1/\(k0=0\/w.heap.size<=y0)/\Nq w' K' y1 b1 k1 d1 (x1)/\k1<=n1 + 1/\(k1=0\/w.heap.size<=y1)/\Nq w' K' y2 b2 k2 d2 (x2)/\k2<=n2 + 1/\(k2=0\/w.heap.size<=y2)/\Nq w' K' y3 b3 k3 d3 (x3)/\k3<=n3 + 1/\(k3=0\/w.heap.size<=y3)
theorem Dp{af:Int}(h:Sx B w K g E W n N)(hid:0<=id/\id < 18446744073709551616)(u:Nk w K z0 a0 n0 c0 x0)(m0:n0<=100000)(y:Nk w K z1 a1 n1 c1 x1)(m1:n1<=100000)(x:Nk w K z2 a2 n2 c2 x2)(m2:n2<=100000)(v:Nk w K z3 a3 n3 c3 x3)(m3:n3<=100000)(hn:n + 40<=4000000000000000000)(hN:N + 40<=100000000):Calls Tryz.prog 34 #[pg g,.int .u64 id,.agg #[.int .u64 rt,.int .u64 tk,.slice a0 n0 c0,.bool jl,.int .u64 un,.bool bo,.int .u64 pe,.slice a1 n1 c1,.slice a2 n2 c2,.slice a3 n3 c3],.int .u64 af] w (CuE B w K g E W n N rt tk jl un bo pe id af x0 x1 x2 x3 n0 n1 n2 n3):=by
 have A:=h.at
 refine aO (n:=32) Tryz.func34 rfl (by kernel_rfl) (by kernel_rfl) ?_
 refine ax (aA (ta 6 [.int .u64 rt,.int .u64 tk,.slice a0 n0 c0,.bool jl,.int .u64 un,.bool bo,.int .u64 pe,.slice a1 n1 c1,.slice a2 n2 c2,.slice a3 n3 c3] 39 (pg) ?_));intro v1 g2 a V B;have zg2:=Nat.le_trans A.size V;have c:=A.new V;have ai:=ne1 u.lt V;have ab:=ne1 y.lt V;have ag:=ne1 x.lt V;have ac:=ne1 v.lt V;replace A:=A.keep B;replace u:=u.keep B;replace y:=y.keep B;replace x:=x.keep B;replace v:=v.keep B;clear B;have lXg2:=a.lt;refine ta 8 [.int .u64 0,.int .u64 0,.slice none 0 0,.bool false,.int .u64 0,.bool false,.int .u64 0,.slice none 0 0,.slice none 0 0,.slice none 0 0] 39 (pg) ?_
 intro v3 g4 b X B;have zg4:=Nat.le_trans A.size X;have d:=A.new X;have ar:=ne1 u.lt X;have aw:=ne1 y.lt X;have av:=ne1 x.lt X;have au:=ne1 v.lt X;replace A:=A.keep B;replace u:=u.keep B;replace y:=y.keep B;replace x:=x.keep B;replace v:=v.keep B;replace a:=a.keep B;clear B;refine ay (ah (ax (aA (t 10 (pq g2 6) ?_))));refine tl 11 (.int .u64 pe) a 6 ?_
 refine tq 12 (.int .u64 (IntKind.u64.wrap (pe - 1))) (.int .u64 ((pe - 1) % 18446744073709551616)) (congrArg (Value.int .u64) (IntKind.wrap_u64 _)) ?_
 refine t 9 (.int .u64 ((pe - 1) % 18446744073709551616)) ?_
 refine ay (ah (ax ?_));replace A:=A.drew;replace u:=u.drew;replace y:=y.drew;replace x:=x.drew;replace v:=v.drew;replace a:=a.drew;replace b:=b.drew;refine cA (fun w'=>Blk w' g2 [.int .u64 rt,.int .u64 tk,.slice a0 n0 c0,.bool jl,.int .u64 un,.bool bo,.int .u64 pe,.slice a1 n1 c1,.slice a2 n2 c2,.slice a3 n3 c3] 39) (fun _=>false) a ?_
 refine z 0 13 (pg g) ?_
 refine z 1 14 (.int .u64 id) ?_
 refine z 2 15 (.int .u64 ((pe - 1) % 18446744073709551616)) ?_
 refine z 4 17 (pq g2 1) ?_
 refine zl 5 18 (.int .u64 tk) (fun _ h=>h) 1 ?_
 refine z 6 19 (.int .u64 af) ?_
 refine zr 7 20 (.agg #[.int .u64 tk,.int .u64 af]) (by intro _ _; kernel_rfl) ?_
 refine zc 3 16 65 #[.int .i64 8,.int .u64 id,.int .u64 ((pe - 1) % 18446744073709551616)] (xb hid (by decide)) ?_
 rintro _ v7 ⟨kv6,rfl,U5,B⟩;replace A:=A.keep B;replace u:=u.keep B;replace y:=y.keep B;replace x:=x.keep B;replace v:=v.keep B;replace a:=a.keep B;replace b:=b.keep B;clear B;refine⟨_,rfl,a,?_⟩;refine zc 8 21 66 #[.agg #[.int .u64 tk,.int .u64 af]] (CI) ?_
 rintro _ v10 ⟨pv9,rfl,U8,B⟩;replace A:=A.keep B;replace u:=u.keep B;replace y:=y.keep B;replace x:=x.keep B;replace v:=v.keep B;replace a:=a.keep B;replace b:=b.keep B;replace U5:=eI U5 B;clear B;refine⟨_,rfl,a,?_⟩;refine zc 9 22 64 #[pg g,kv6,pv9] (qset A.sx U5 (lS id ((pe - 1) % 18446744073709551616)) U8 (Nat.le_trans (xr _ _) (by decide)) (by omega) (by omega)) ?_
 rintro _ v12 ⟨rfl,K11,S,L,hC⟩;replace u:=u.op L hC;replace y:=y.op L hC;replace x:=x.op L hC;replace v:=v.op L hC;replace c:=opX a c L hC;replace a:=c.1;replace c:=c.2;replace d:=opX b d L hC;replace b:=d.1;replace d:=d.2;replace U5:=A.byu U5 hC;replace U8:=A.byu U8 hC;replace A:=A.op S L hC;clear S L hC;clear U5;clear U8;refine⟨_,rfl,a,?_⟩;refine bC (ah (aY [(0,pg g),(1,.int .u64 id),(3,.int .u64 af),(6,pg g2),(8,pg g4),(9,.int .u64 ((pe - 1) % 18446744073709551616))] (by kernel_rfl) ?_));refine ax (aA (t 23 (pg g) ?_));refine t 24 (.int .u64 id) ?_
 refine t 25 (.int .u64 ((pe - 1) % 18446744073709551616)) ?_
 refine tc 26 45 #[pg g,.int .u64 id,.int .u64 ((pe - 1) % 18446744073709551616)] (j8 A.sx hid (by omega) (by omega)) ?_
 rintro _ v14 ⟨rfl,K13,S,L,hC⟩;refine⟨_,rfl,?_⟩;replace u:=u.op L hC;replace y:=y.op L hC;replace x:=x.op L hC;replace v:=v.op L hC;replace c:=opX a c L hC;replace a:=c.1;replace c:=c.2;replace d:=opX b d L hC;replace b:=d.1;replace d:=d.2;replace A:=A.op S L hC;clear S L hC;refine ay (ah (ax (aA (tlr 27 [.int .u64 rt,.int .u64 tk,.slice a0 n0 c0,.bool jl,.int .u64 un,.bool bo,.int .u64 pe,.slice a1 n1 c1,.slice a2 n2 c2,.slice a3 n3 c3] a 0 ?_))));refine tc 28 44 #[.agg #[.int .u64 rt,.int .u64 tk,.slice a0 n0 c0,.bool jl,.int .u64 un,.bool bo,.int .u64 pe,.slice a1 n1 c1,.slice a2 n2 c2,.slice a3 n3 c3]] (jc u.nat (by omega) y.nat (by omega) x.nat (by omega) v.nat (by omega)) ?_
 rintro _ v19 ⟨l,m,s,zv15,k,j,q,zv16,p,i,o,zv17,e,f,r,zv18,rfl,am,I,mv15,ak,P,mv16,aj,J,mv17,al,O,mv18,B⟩;refine⟨_,rfl,?_⟩;have U:=ne2 I a.lt;have ad:=ne2 I b.lt;have ao:=ne3 I A.size;have G:=eu A.sx am I;clear am I;have Q:=ne2 P a.lt;have Z:=ne2 P b.lt;have aq:=ne3 P A.size;have F:=eu A.sx ak P;clear ak P;have M:=ne2 J a.lt;have aa:=ne2 J b.lt;have an:=ne3 J A.size;have D:=eu A.sx aj J;clear aj J;have R:=ne2 O a.lt;have ae:=ne2 O b.lt;have ap:=ne3 O A.size;have H:=eu A.sx al O;clear al O;replace A:=A.keep B;replace u:=u.keep B;replace y:=y.keep B;replace x:=x.keep B;replace v:=v.keep B;replace a:=a.keep B;replace b:=b.keep B;clear B;refine ts a 0 (.agg #[.int .u64 rt,.int .u64 tk,.slice l m s,.bool jl,.int .u64 un,.bool bo,.int .u64 pe,.slice k j q,.slice p i o,.slice e f r]) [.int .u64 rt,.int .u64 tk,.slice l m s,.bool jl,.int .u64 un,.bool bo,.int .u64 pe,.slice k j q,.slice p i o,.slice e f r] [.int .u64 rt,.int .u64 tk,.slice l m s,.bool jl,.int .u64 un,.bool bo,.int .u64 pe,.slice k j q,.slice p i o,.slice e f r] ?_
 intro v20 Y C;replace A:=Bk.At.cell A a C zg2 c (by decide);replace u:=u.cell C ai;replace y:=y.cell C ab;replace x:=x.cell C ag;replace v:=v.cell C ac;replace b:=b.chg C (show g4≠g2 by omega);replace G:=G.cell C U;replace F:=F.cell C Q;replace D:=D.cell C M;replace H:=H.cell C R;clear C a;have a:=Y;clear Y;refine ay (ah (ax (aA (t 29 (.int .u64 af) ?_))));refine t 30 (pq g2 1) ?_
 refine ts a 1 (.int .u64 af) [.int .u64 af] [.int .u64 rt,.int .u64 af,.slice l m s,.bool jl,.int .u64 un,.bool bo,.int .u64 pe,.slice k j q,.slice p i o,.slice e f r] ?_
 intro v21 Y C;replace A:=Bk.At.cell A a C zg2 c (by decide);replace u:=u.cell C ai;replace y:=y.cell C ab;replace x:=x.cell C ag;replace v:=v.cell C ac;replace b:=b.chg C (show g4≠g2 by omega);replace G:=G.cell C U;replace F:=F.cell C Q;replace D:=D.cell C M;replace H:=H.cell C R;clear C a;have a:=Y;clear Y;refine ay (ah (ax (aA (tlr 31 [.int .u64 rt,.int .u64 af,.slice l m s,.bool jl,.int .u64 un,.bool bo,.int .u64 pe,.slice k j q,.slice p i o,.slice e f r] a 0 ?_))));refine ts b 0 (.agg #[.int .u64 rt,.int .u64 af,.slice l m s,.bool jl,.int .u64 un,.bool bo,.int .u64 pe,.slice k j q,.slice p i o,.slice e f r]) [.int .u64 rt,.int .u64 af,.slice l m s,.bool jl,.int .u64 un,.bool bo,.int .u64 pe,.slice k j q,.slice p i o,.slice e f r] [.int .u64 rt,.int .u64 af,.slice l m s,.bool jl,.int .u64 un,.bool bo,.int .u64 pe,.slice k j q,.slice p i o,.slice e f r] ?_
 intro v22 Y C;replace A:=Bk.At.cell A b C zg4 d (by decide);replace u:=u.cell C ar;replace y:=y.cell C aw;replace x:=x.cell C av;replace v:=v.cell C au;replace a:=a.chg C (show g2≠g4 by omega);replace G:=G.cell C ad;replace F:=F.cell C Z;replace D:=D.cell C aa;replace H:=H.cell C ae;clear C b;have b:=Y;clear Y;refine ay (ah (aV (aW (.agg #[.int .u64 rt,.int .u64 af,.slice l m s,.bool jl,.int .u64 un,.bool bo,.int .u64 pe,.slice k j q,.slice p i o,.slice e f r]) (rsc 8 (T:=39) (by kernel_rfl) (by kernel_rfl) (lr b 0)) ?_)));exact⟨_,_,_,_,_,_,_,_,_,_,_,_,_,_,_,_,_,_,_,rfl,A.sx,by omega,by omega,A.km,A.cc,G,by omega,ao,F,by omega,aq,D,by omega,an,H,by omega,ap⟩
def eZ(E:aE)(id pe tk cur:Int):aE:=letE (lK E id pe (hX (got E (Ky.mk 7 id ((pe - 1) % 18446744073709551616))) 0 + cur / tk) 1) id ((pe - 1) % 18446744073709551616)
structure ClE(B:Nat)(w:World)(K:Nat->Prop)(g:Nat)(E:aE)(W:List aE)(n N:Nat)(rt tk:Int)(jl:Bool)(un:Int)(bo:Bool)(pe id x0 x1 x2 x3:Int)(n0 n1 n2 n3:Nat)(e:Ending)(w':World):Prop where
 ex:∃ b0 k0 d0 y0 b1 k1 d1 y1 b2 k2 d2 y2 b3 k3 d3 y3 K' n' N',e=.returned (.tuple #[.agg #[.int .u64 rt,.int .u64 tk,.slice b0 k0 d0,.bool jl,.int .u64 un,.bool bo,.int .u64 ((pe + 1) % 18446744073709551616),.slice none 0 0,.slice b2 k2 d2,.slice b3 k3 d3],.agg #[.slice b1 k1 d1]])/\Sx B w' K' g (eZ E id pe tk x1) W n' N'/\n'<=n + 20/\N'<=N + 20/\(∀ b,K' b->K b\/w.heap.size<=b)/\Chg K w w'/\Nq w' K' y0 b0 k0 d0 (x0)/\k0<=n0 + 1/\(k0=0\/w.heap.size<=y0)/\Nq w' K' y1 b1 k1 d1 ((if tk=0 then x1 else 0))/\k1<=n1 + 1/\(k1=0\/w.heap.size<=y1)/\Nq w' K' y2 b2 k2 d2 ((if tk=0 then iO x2 x1 else x2))/\k2<=n2 + 1/\(k2=0\/w.heap.size<=y2)/\Nq w' K' y3 b3 k3 d3 (x3)/\k3<=n3 + 1/\(k3=0\/w.heap.size<=y3)
theorem Nq.eqv{z c:Nat}{x y:Int}(h:Nq w K z ao n c x)(e:x=y):Nq w K z ao n c y:=e▸h
theorem ia(h:Sx B w K g E W n N)(hid:0<=id/\id < 18446744073709551616)(htk:0<=tk/\tk < 18446744073709551616)(Q0:Nk w K z0 a0 n0 c0 x0)(m0:n0<=100000)(Q1:Nk w K z1 a1 n1 c1 x1)(m1:n1<=100000)(Q2:Nk w K z2 a2 n2 c2 x2)(m2:n2<=100000)(Q3:Nk w K z3 a3 n3 c3 x3)(m3:n3<=100000)(hn:n + 60<=4000000000000000000)(hN:N + 60<=100000000):Calls Tryz.prog 22 #[pg g,.int .u64 id,.agg #[.int .u64 rt,.int .u64 tk,.slice a0 n0 c0,.bool jl,.int .u64 un,.bool bo,.int .u64 pe,.slice a1 n1 c1,.slice a2 n2 c2,.slice a3 n3 c3]] w (ClE B w K g E W n N rt tk jl un bo pe id x0 x1 x2 x3 n0 n1 n2 n3):=by
 have U:=yn h;refine aO (n:=60) Tryz.func22 rfl (by kernel_rfl) (by kernel_rfl) ?_
 refine ax (aA (ta 5 [.int .u64 rt,.int .u64 tk,.slice a0 n0 c0,.bool jl,.int .u64 un,.bool bo,.int .u64 pe,.slice a1 n1 c1,.slice a2 n2 c2,.slice a3 n3 c3] 39 (pg) ?_));intro v1 g2 Z X B;replace U:=U.new Z X B;clear Z X B;refine ta 6 [.int .u64 0,.int .u64 0,.slice none 0 0,.bool false,.int .u64 0,.bool false,.int .u64 0,.slice none 0 0,.slice none 0 0,.slice none 0 0] 39 (pg) ?_
 intro v3 g4 af ab B;replace U:=U.new af ab B;clear af ab B;refine ta 7 [.slice none 0 0] 32 (pg) ?_
 intro v5 g6 ad ai B;replace U:=U.new ad ai B;clear ad ai B;refine ay (ah (ax (aA (tlr 12 [.int .u64 rt,.int .u64 tk,.slice a0 n0 c0,.bool jl,.int .u64 un,.bool bo,.int .u64 pe,.slice a1 n1 c1,.slice a2 n2 c2,.slice a3 n3 c3] (U.bk 2 rfl) 0 ?_))));refine tc 13 44 #[.agg #[.int .u64 rt,.int .u64 tk,.slice a0 n0 c0,.bool jl,.int .u64 un,.bool bo,.int .u64 pe,.slice a1 n1 c1,.slice a2 n2 c2,.slice a3 n3 c3]] (jc (Q0.op U.ta.km U.ta.cc).nat (by omega) (Q1.op U.ta.km U.ta.cc).nat (by omega) (Q2.op U.ta.km U.ta.cc).nat (by omega) (Q3.op U.ta.km U.ta.cc).nat (by omega)) ?_
 rintro _ v11 ⟨f,e,i,zv7,d,j,k,zv8,r,q,p,zv9,b,c,a,zv10,rfl,M0,h0,mv7,M1,h1,mv8,M2,h2,mv9,M3,h3,mv10,B⟩;refine⟨_,rfl,?_⟩;have aa:=ne3 h0 U.ta.size;have fv8:=ne3 h1 U.ta.size;have fv9:=ne3 h2 U.ta.size;have J:=ne3 h3 U.ta.size;have L:=U.lt;replace U:=((((U.keep B).add L (eu U.ta.sx M0 h0) h0).add L (eu U.ta.sx M1 h1) h1).add L (eu U.ta.sx M2 h2) h2).add L (eu U.ta.sx M3 h3) h3;clear L B M0 h0 M1 h1 M2 h2 M3 h3;refine ts (U.bk 2 rfl) 0 (.agg #[.int .u64 rt,.int .u64 tk,.slice f e i,.bool jl,.int .u64 un,.bool bo,.int .u64 pe,.slice d j k,.slice r q p,.slice b c a]) [.int .u64 rt,.int .u64 tk,.slice f e i,.bool jl,.int .u64 un,.bool bo,.int .u64 pe,.slice d j k,.slice r q p,.slice b c a] [.int .u64 rt,.int .u64 tk,.slice f e i,.bool jl,.int .u64 un,.bool bo,.int .u64 pe,.slice d j k,.slice r q p,.slice b c a] ?_
 intro v12 Y C;replace U:=U.put 2 rfl C Y (by decide);clear Y C;refine ay (ah (ax (aA (t 14 (pq g2 6) ?_))));refine tl 15 (.int .u64 pe) (U.bk 2 rfl) 6 ?_
 refine tq 16 (.int .u64 (IntKind.u64.wrap (pe - 1))) (.int .u64 ((pe - 1) % 18446744073709551616)) (congrArg (Value.int .u64) (IntKind.wrap_u64 _)) ?_
 refine t 8 (.int .u64 ((pe - 1) % 18446744073709551616)) ?_
 refine ay (ah (aY [(0,pg g),(1,.int .u64 id),(5,pg g2),(6,pg g4),(7,pg g6),(8,.int .u64 ((pe - 1) % 18446744073709551616))] (by kernel_rfl) ?_));refine ax (aA (t 18 (pq g2 7) ?_));refine tlr 19 [.slice d j k] (U.bk 2 rfl) 7 ?_
 refine t 20 (pq g2 1) ?_
 refine tl 21 (.int .u64 tk) (U.bk 2 rfl) 1 ?_
 refine tc 22 30 #[.agg #[.slice d j k],.int .u64 tk] (eOver (U.nq 2 rfl).nat (by omega) htk) ?_
 rintro _ v14 ⟨v,s,u,zq13,rfl,M,h,mq13,B⟩;refine⟨_,rfl,?_⟩;have fq13:=ne3 h U.ta.size;replace U:=U.num M h B;clear M h B;refine t 17 (.tuple #[.agg #[.slice v s u],.int .i64 (dvZ tk)]) ?_
 refine t 23 (.agg #[.slice v s u]) ?_
 refine t 24 (.int .i64 (dvZ tk)) ?_
 refine ta 9 [.slice none 0 0] 32 (pg) ?_
 intro v15 g16 H F B;replace U:=U.new H F B;clear H F B;refine ts (U.bk 0 rfl) 0 (.agg #[.slice v s u]) [.slice v s u] [.slice v s u] ?_
 intro v17 Y C;replace U:=U.put 0 rfl C Y (by decide);clear Y C;refine t 10 (.int .i64 (dvZ tk)) ?_
 refine ay (ah (ax ?_));replace U:=U.drew;refine cA (fun P=>Blk P g2 [.int .u64 rt,.int .u64 tk,.slice f e i,.bool jl,.int .u64 un,.bool bo,.int .u64 pe,.slice d j k,.slice r q p,.slice b c a] 39/\Blk P g16 [.slice v s u] 32) (fun _=>false) ⟨(U.bk 3 rfl),(U.bk 0 rfl)⟩ ?_
 refine z 0 25 (pg g) ?_
 refine z 1 26 (.int .u64 id) ?_
 refine z 2 27 (pq g2 6) ?_
 refine zl 3 28 (.int .u64 pe) (fun _ h=>h.1) 6 ?_
 refine z 4 29 (pg g) ?_
 refine z 5 30 (.int .u64 id) ?_
 refine z 6 31 (.int .u64 ((pe - 1) % 18446744073709551616)) ?_
 refine zlr 8 33 [.slice v s u] (fun _ h=>h.2) 0 ?_
 refine zc 7 32 49 #[pg g,.int .u64 id,.int .u64 ((pe - 1) % 18446744073709551616)] (wF U.ta.sx hid (by omega) (by omega)) ?_
 rintro _ v20 ⟨ae,V,ac,rfl,zr18,K19,S,A,hC,Q,mr18,h⟩;have L:=U.lt;replace U:=(U.op S A hC).add L Q h;clear L S A hC Q h;refine⟨_,rfl,⟨(U.bk 3 rfl),(U.bk 0 rfl)⟩,?_⟩;refine zc 9 34 27 #[.agg #[.slice ae V ac],.agg #[.slice v s u]] (eAdd (U.nq 0 rfl).nat (by omega) (U.nq 1 rfl).nat (by omega)) ?_
 rintro _ v22 ⟨G,O,I,zq21,rfl,M,h,mq21,B⟩;have fq21:=ne3 h U.ta.size;replace U:=U.num M h B;clear M h B;refine⟨_,rfl,⟨(U.bk 3 rfl),(U.bk 0 rfl)⟩,?_⟩;refine zr 10 35 (.agg #[.slice G O I,.int .u64 1]) (by intro _ _; kernel_rfl) ?_
 refine zc 11 36 56 #[pg g,.int .u64 id,.int .u64 pe,.agg #[.slice G O I,.int .u64 1]] (oR U.ta.sx hid (U.nq 0 rfl).nk (by omega) (by omega) (by omega)) ?_
 rintro _ v24 ⟨rfl,K23,S,A,hC⟩;replace U:=U.op S A hC;clear S A hC;refine⟨_,rfl,⟨(U.bk 3 rfl),(U.bk 0 rfl)⟩,?_⟩;refine bC (ah (aY [(0,pg g),(1,.int .u64 id),(5,pg g2),(6,pg g4),(7,pg g6),(8,.int .u64 ((pe - 1) % 18446744073709551616))] (by kernel_rfl) ?_));refine ax (aA (t 37 (pg g) ?_));refine t 38 (.int .u64 id) ?_
 refine t 39 (.int .u64 ((pe - 1) % 18446744073709551616)) ?_
 refine tc 40 57 #[pg g,.int .u64 id,.int .u64 ((pe - 1) % 18446744073709551616)] (u5 U.ta.sx hid (by omega) (by omega)) ?_
 rintro _ v29 ⟨rfl,K25,n26,N27,S,qn26,qN27,A,hC⟩;refine⟨_,rfl,?_⟩;replace U:=U.op S A hC;clear S A hC;refine ay (ah (ax (aA (ta 11 [.slice none 0 0] 32 (pg) ?_))));intro v30 y R D B;replace U:=U.new R D B;clear R D B;refine ay (ah (ax (ax (aA (t 41 (pq g2 1) ?_)))));refine tl 42 (.int .u64 tk) (U.bk 4 rfl) 1 ?_
 by_cases x:(tk:Int)=0
 ·refine tq 43 (.bool ((tk:Int) == 0)) (.bool true) (congrArg Value.bool (beq_iff_eq.2 x)) ?_
  refine ay (ah (eX ?_));refine ax (aA (t 44 (pq g2 7) ?_));refine tlr 45 [.slice d j k] (U.bk 4 rfl) 7 ?_
  refine ts (U.bk 0 rfl) 0 (.agg #[.slice d j k]) [.slice d j k] [.slice d j k] ?_
  intro v33 Y C;replace U:=U.put 0 rfl C Y (by decide);clear Y C;refine ay (ah (aA (t 46 (pq g2 8) ?_)));refine tlr 47 [.slice r q p] (U.bk 4 rfl) 8 ?_
  refine t 48 (pq g2 7) ?_
  refine tlr 49 [.slice d j k] (U.bk 4 rfl) 7 ?_
  refine tc 50 52 #[.agg #[.slice r q p],.agg #[.slice d j k]] (rR (U.nq 4 rfl).nat (by omega) (U.nq 5 rfl).nat (by omega)) ?_
  rintro _ v35 ⟨o,m,l,zq34,rfl,M,h,mq34,B⟩;refine⟨_,rfl,?_⟩;have ag:=ne3 h U.ta.size;replace U:=U.num M h B;clear M h B;refine t 51 (pq g2 8) ?_
  refine ts (U.bk 4 rfl) 8 (.agg #[.slice o m l]) [.slice o m l] [.int .u64 rt,.int .u64 tk,.slice f e i,.bool jl,.int .u64 un,.bool bo,.int .u64 pe,.slice d j k,.slice o m l,.slice b c a] ?_
  intro v36 Y C;replace U:=U.put 4 rfl C Y (by decide);clear Y C;refine ay (ah (aY [(5,pg g2),(6,pg g4),(7,pg g6),(11,pg y)] (by kernel_rfl) ?_));refine ax (aA (t 52 (pq g2 6) ?_));refine tl 53 (.int .u64 pe) (U.bk 4 rfl) 6 ?_
  refine tq 54 (.int .u64 (IntKind.u64.wrap (pe + 1))) (.int .u64 ((pe + 1) % 18446744073709551616)) (congrArg (Value.int .u64) (IntKind.wrap_u64 _)) ?_
  refine t 55 (pq g2 6) ?_
  refine ts (U.bk 4 rfl) 6 (.int .u64 ((pe + 1) % 18446744073709551616)) [.int .u64 ((pe + 1) % 18446744073709551616)] [.int .u64 rt,.int .u64 tk,.slice f e i,.bool jl,.int .u64 un,.bool bo,.int .u64 ((pe + 1) % 18446744073709551616),.slice d j k,.slice o m l,.slice b c a] ?_
  intro v37 Y C;replace U:=U.put 4 rfl C Y (by decide);clear Y C;refine ay (ah (ax (aA (t 56 (.agg #[.slice none 0 0]) ?_))));refine t 57 (pq g2 7) ?_
  refine ts (U.bk 4 rfl) 7 (.agg #[.slice none 0 0]) [.slice none 0 0] [.int .u64 rt,.int .u64 tk,.slice f e i,.bool jl,.int .u64 un,.bool bo,.int .u64 ((pe + 1) % 18446744073709551616),.slice none 0 0,.slice o m l,.slice b c a] ?_
  intro v38 Y C;replace U:=U.put 4 rfl C Y (by decide);clear Y C;refine ay (ah (ax ?_));replace U:=U.drew;refine cA (fun P=>Blk P g2 [.int .u64 rt,.int .u64 tk,.slice f e i,.bool jl,.int .u64 un,.bool bo,.int .u64 ((pe + 1) % 18446744073709551616),.slice none 0 0,.slice o m l,.slice b c a] 39/\Blk P y [.slice d j k] 32) (fun _=>false) ⟨(U.bk 4 rfl),(U.bk 0 rfl)⟩ ?_
  refine zlr 0 58 [.int .u64 rt,.int .u64 tk,.slice f e i,.bool jl,.int .u64 un,.bool bo,.int .u64 ((pe + 1) % 18446744073709551616),.slice none 0 0,.slice o m l,.slice b c a] (fun _ h=>h.1) 0 ?_
  refine zlr 1 59 [.slice d j k] (fun _ h=>h.2) 0 ?_
  refine zs 2 (U.bk 3 rfl) 0 (.agg #[.int .u64 rt,.int .u64 tk,.slice f e i,.bool jl,.int .u64 un,.bool bo,.int .u64 ((pe + 1) % 18446744073709551616),.slice none 0 0,.slice o m l,.slice b c a]) [.int .u64 rt,.int .u64 tk,.slice f e i,.bool jl,.int .u64 un,.bool bo,.int .u64 ((pe + 1) % 18446744073709551616),.slice none 0 0,.slice o m l,.slice b c a] [.int .u64 rt,.int .u64 tk,.slice f e i,.bool jl,.int .u64 un,.bool bo,.int .u64 ((pe + 1) % 18446744073709551616),.slice none 0 0,.slice o m l,.slice b c a] ?_
  intro v39 Y C;replace U:=U.put 3 rfl C Y (by decide);clear Y C;refine⟨⟨(U.bk 4 rfl),(U.bk 0 rfl)⟩,?_⟩;refine zs 3 (U.bk 2 rfl) 0 (.agg #[.slice d j k]) [.slice d j k] [.slice d j k] ?_
  intro v40 Y C;replace U:=U.put 2 rfl C Y (by decide);clear Y C;refine⟨⟨(U.bk 4 rfl),(U.bk 0 rfl)⟩,?_⟩;refine bC (ah (aV (aW (.tuple #[.agg #[.int .u64 rt,.int .u64 tk,.slice f e i,.bool jl,.int .u64 un,.bool bo,.int .u64 ((pe + 1) % 18446744073709551616),.slice none 0 0,.slice o m l,.slice b c a],.agg #[.slice d j k]]) (rscc 6 7 (T:=39) (T2:=32) (by kernel_rfl) (by kernel_rfl) (by kernel_rfl) (lr (U.bk 3 rfl) 0) (lr (U.bk 2 rfl) 0)) ?_)));exact⟨_,_,_,_,_,_,_,_,_,_,_,_,_,_,_,_,_,_,_,rfl,U.ta.sx,by omega,by omega,U.ta.km,U.ta.cc,(U.nq 7 rfl),by omega,aa,(U.nq 6 rfl).eqv (if_pos x).symm,by omega,fv8,(U.nq 0 rfl).eqv (if_pos x).symm,by omega,ag,(U.nq 4 rfl),by omega,J⟩
 ·refine tq 43 (.bool ((tk:Int) == 0)) (.bool false) (congrArg Value.bool (beq_eq_false_iff_ne.2 x)) ?_
  refine ay (ah (dW ?_));refine bW (ah (ax (aA (t 52 (pq g2 6) ?_))));refine tl 53 (.int .u64 pe) (U.bk 4 rfl) 6 ?_
  refine tq 54 (.int .u64 (IntKind.u64.wrap (pe + 1))) (.int .u64 ((pe + 1) % 18446744073709551616)) (congrArg (Value.int .u64) (IntKind.wrap_u64 _)) ?_
  refine t 55 (pq g2 6) ?_
  refine ts (U.bk 4 rfl) 6 (.int .u64 ((pe + 1) % 18446744073709551616)) [.int .u64 ((pe + 1) % 18446744073709551616)] [.int .u64 rt,.int .u64 tk,.slice f e i,.bool jl,.int .u64 un,.bool bo,.int .u64 ((pe + 1) % 18446744073709551616),.slice d j k,.slice r q p,.slice b c a] ?_
  intro v41 Y C;replace U:=U.put 4 rfl C Y (by decide);clear Y C;refine ay (ah (aY [(5,pg g2),(6,pg g4),(7,pg g6),(11,pg y)] (by kernel_rfl) ?_));refine ax (aA (t 56 (.agg #[.slice none 0 0]) ?_));refine t 57 (pq g2 7) ?_
  refine ts (U.bk 4 rfl) 7 (.agg #[.slice none 0 0]) [.slice none 0 0] [.int .u64 rt,.int .u64 tk,.slice f e i,.bool jl,.int .u64 un,.bool bo,.int .u64 ((pe + 1) % 18446744073709551616),.slice none 0 0,.slice r q p,.slice b c a] ?_
  intro v42 Y C;replace U:=U.put 4 rfl C Y (by decide);clear Y C;refine ay (ah (ax ?_));replace U:=U.drew;refine cA (fun P=>Blk P g2 [.int .u64 rt,.int .u64 tk,.slice f e i,.bool jl,.int .u64 un,.bool bo,.int .u64 ((pe + 1) % 18446744073709551616),.slice none 0 0,.slice r q p,.slice b c a] 39/\Blk P y [.slice none 0 0] 32) (fun _=>false) ⟨(U.bk 4 rfl),(U.bk 0 rfl)⟩ ?_
  refine zlr 0 58 [.int .u64 rt,.int .u64 tk,.slice f e i,.bool jl,.int .u64 un,.bool bo,.int .u64 ((pe + 1) % 18446744073709551616),.slice none 0 0,.slice r q p,.slice b c a] (fun _ h=>h.1) 0 ?_
  refine zlr 1 59 [.slice none 0 0] (fun _ h=>h.2) 0 ?_
  refine zs 2 (U.bk 3 rfl) 0 (.agg #[.int .u64 rt,.int .u64 tk,.slice f e i,.bool jl,.int .u64 un,.bool bo,.int .u64 ((pe + 1) % 18446744073709551616),.slice none 0 0,.slice r q p,.slice b c a]) [.int .u64 rt,.int .u64 tk,.slice f e i,.bool jl,.int .u64 un,.bool bo,.int .u64 ((pe + 1) % 18446744073709551616),.slice none 0 0,.slice r q p,.slice b c a] [.int .u64 rt,.int .u64 tk,.slice f e i,.bool jl,.int .u64 un,.bool bo,.int .u64 ((pe + 1) % 18446744073709551616),.slice none 0 0,.slice r q p,.slice b c a] ?_
  intro v43 Y C;replace U:=U.put 3 rfl C Y (by decide);clear Y C;refine⟨⟨(U.bk 4 rfl),(U.bk 0 rfl)⟩,?_⟩;refine zs 3 (U.bk 2 rfl) 0 (.agg #[.slice none 0 0]) [.slice none 0 0] [.slice none 0 0] ?_
  intro v44 Y C;replace U:=U.put 2 rfl C Y (by decide);clear Y C;refine⟨⟨(U.bk 4 rfl),(U.bk 0 rfl)⟩,?_⟩;refine bC (ah (aV (aW (.tuple #[.agg #[.int .u64 rt,.int .u64 tk,.slice f e i,.bool jl,.int .u64 un,.bool bo,.int .u64 ((pe + 1) % 18446744073709551616),.slice none 0 0,.slice r q p,.slice b c a],.agg #[.slice none 0 0]]) (rscc 6 7 (T:=39) (T2:=32) (by kernel_rfl) (by kernel_rfl) (by kernel_rfl) (lr (U.bk 3 rfl) 0) (lr (U.bk 2 rfl) 0)) ?_)));exact⟨_,_,_,_,none,0,0,0,_,_,_,_,_,_,_,_,_,_,_,rfl,U.ta.sx,by omega,by omega,U.ta.km,U.ta.cc,(U.nq 6 rfl),by omega,aa,(dm _ _).eqv (if_neg x).symm,by omega,.inl rfl,(U.nq 4 rfl).eqv (if_neg x).symm,by omega,fv9,(U.nq 3 rfl),by omega,J⟩
end
end Fo
end
end Go.Proofs.YthfepflplbahkaaGreatDoor
