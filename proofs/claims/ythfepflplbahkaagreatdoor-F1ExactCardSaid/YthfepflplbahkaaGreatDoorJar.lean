import Derived.Test.YthfepflplbahkaaGreatDoorJaq
set_option maxRecDepth 100000
set_option maxHeartbeats 8000000
namespace Go.Proofs.YthfepflplbahkaaGreatDoor
section
namespace Fo
open Go.RowKit Go.Lib Pg Lim Gl Kv Bk Pw
set_option linter.unusedVariables false
theorem vq {w:World} {K K':Nat->Prop} {x:Nat} {cs:List Value} {t:TypeId} (X:Blk w x cs t) (h:¬ K x) (hK:∀ b,K' b->K b\/w.heap.size<=b):¬ K' x:=fun q=>(hK x q).elim h (fun q=>by have:=X.lt; omega)
abbrev Bx:=Nat × List Value × TypeId
abbrev Nx:=Nat × Option Addr × Nat × Nat × Int
structure Ut (w0:World) (K0:Nat->Prop) (B g0:Nat) (W:List aE) (w:World) (K:Nat->Prop) (E:aE) (n N:Nat) (bs:List Bx) (qs:List Nx):Prop where
 ta:Bk.At B w0 K0 w K g0 E W n N
 b:∀ p∈bs,Blk w p.1 p.2.1 p.2.2/\¬ K p.1/\w0.heap.size<=p.1
 q:∀ r∈qs,Nq w K r.1 r.2.1 r.2.2.1 r.2.2.2.1 r.2.2.2.2
 e:∀ p∈bs,∀ r∈qs,r.2.2.1=0\/r.1≠p.1
 d:bs.Pairwise (fun a b=>a.1≠b.1)
section
variable {w0 w w':World} {B g0 n N n' N' g i:Nat} {K0 K K':Nat->Prop} {W:List aE} {E E':aE} {bs:List Bx} {qs:List Nx} {cs cs':List Value} {t:TypeId}
section
variable {z k d:Nat}{a:Option Addr}{x:Int}
theorem Ut.lt(h:Ut w0 K0 B g0 W w K E n N bs qs):∀ p∈bs,p.1 < w.heap.size:=fun p hp=>(h.b p hp).1.lt
theorem yF(h:Sx B w K g0 E W n N):Ut w K B g0 W w K E n N [] []:=⟨h.at,fun _ h=>(List.not_mem_nil h).elim,fun _ h=>(List.not_mem_nil h).elim,fun _ h=>(List.not_mem_nil h).elim,List.Pairwise.nil⟩
theorem Ut.keep(h:Ut w0 K0 B g0 W w K E n N bs qs)(b:Below w.heap.size w w'):Ut w0 K0 B g0 W w' K E n N bs qs:=⟨h.ta.keep b,fun p a=>⟨(h.b p a).1.keep b,(h.b p a).2⟩,fun r c=>(h.q r c).keep b,h.e,h.d⟩
theorem Ut.drew(h:Ut w0 K0 B g0 W w K E n N bs qs):Ut w0 K0 B g0 W w.drew K E n N bs qs:=h.keep (Below.refl _ _).drew
theorem Ut.op(h:Ut w0 K0 B g0 W w K E n N bs qs)(S:Sx B w' K' g0 E' W n' N')(c:∀ b,K' b->K b\/w.heap.size<=b)(hC:Chg K w w'):Ut w0 K0 B g0 W w' K' E' n' N' bs qs:=⟨h.ta.op S c hC,fun p a=>⟨(h.b p a).1.chg hC (h.b p a).2.1,vq (h.b p a).1 (h.b p a).2.1 c,(h.b p a).2.2⟩,fun r f=>(h.q r f).op c hC,h.e,h.d⟩
theorem Ut.add{s:Nat}(h:Ut w0 K0 B g0 W w K E n N bs qs)(L:∀ p∈bs,p.1 < s)(Q:Nq w K z a k d x)(f:k=0\/s<=z):Ut w0 K0 B g0 W w K E n N bs ((z,a,k,d,x) :: qs):=⟨h.ta,h.b,List.forall_mem_cons.2 ⟨Q,h.q⟩,fun p c=>List.forall_mem_cons.2 ⟨f.imp_right (fun q e=>by have:=L p c; have g:z=p.1:=e; omega),h.e p c⟩,h.d⟩
theorem Ut.num(h:Ut w0 K0 B g0 W w K E n N bs qs)(M:Nf w' z a k d x)(c:k=0\/w.heap.size<=z)(b:Below w.heap.size w w'):Ut w0 K0 B g0 W w' K E n N bs ((z,a,k,d,x) :: qs):=(h.keep b).add h.lt (eu h.ta.sx M c) c
theorem Ut.new(h:Ut w0 K0 B g0 W w K E n N bs qs)(X:Blk w' g cs t)(a:w.heap.size<=g)(b:Below w.heap.size w w'):Ut w0 K0 B g0 W w' K E n N ((g,cs,t) :: bs) qs:=by
 have u:=h.keep b;refine⟨u.ta,List.forall_mem_cons.2 ⟨⟨X,fun q=>by have:=h.ta.sx.sa.lt q; omega,Nat.le_trans h.ta.size a⟩,u.b⟩,u.q,List.forall_mem_cons.2 ⟨fun r f=>ne1 (h.q r f).lt a,u.e⟩,List.pairwise_cons.2 ⟨fun p c e=>by have:=h.lt p c; have i:g=p.1:=e; omega,u.d⟩⟩
theorem Ut.bk(h:Ut w0 K0 B g0 W w K E n N bs qs)(i:Nat)(hi:bs[i]? = some (g,cs,t)):Blk w g cs t:=(h.b _ (List.mem_of_getElem? hi)).1
theorem Ut.nq(h:Ut w0 K0 B g0 W w K E n N bs qs)(i:Nat)(hi:qs[i]? = some (z,a,k,d,x)):Nq w K z a k d x:=h.q _ (List.mem_of_getElem? hi)
theorem eK{p q:Bx}:∀ {bs:List Bx} {i:Nat},p∈bs.set i q->p=q\/p∈bs
 | [],_,h=>.inr h
 | b :: bs,0,h=>(List.mem_cons.1 h).imp id (List.mem_cons_of_mem _)
 | b :: bs,i + 1,h=>(List.mem_cons.1 h).elim (fun e=>.inr (e▸List.mem_cons_self)) (fun h=>(eK h).imp id (List.mem_cons_of_mem _))
theorem o8{q : Bx} : ∀ {bs : List Bx} {i : Nat}, bs.Pairwise (fun a b => a.1 ≠ b.1) → (hi : bs[i]? = some (g, cs, t)) → q.1 = g → (bs.set i q).Pairwise (fun a b => a.1 ≠ b.1) ∧ ∀ p ∈ bs.set i q, p ≠ q → p.1 ≠ g
  | [], _, _, hi, _ => by simp at hi
  | b :: bs, 0, hd, hi, hq => by
    have e : b = (g, cs, t) := by simpa using hi
    have c := List.pairwise_cons.1 hd;subst e;refine⟨List.pairwise_cons.2 ⟨fun p d => by rw[hq]; exact c.1 p d, c.2⟩, fun p d hn => ?_⟩;rcases List.mem_cons.1 d with h | h
    · exact absurd h hn
    · exact(c.1 p h).symm
  | b :: bs, i + 1, hd, hi, hq => by
    have c := List.pairwise_cons.1 hd
    have f : bs[i]? = some (g, cs, t) := by simpa using hi
    obtain⟨r1, j⟩:= o8 c.2 f hq
    have hb : b.1 ≠ g := c.1 _ (List.mem_of_getElem? f);refine⟨List.pairwise_cons.2 ⟨fun p d => ?_, r1⟩, fun p d hn => ?_⟩
    · rcases eK d with h | h
      · rw[h, hq]; exact hb
      · exact c.1 p h
    · rcases List.mem_cons.1 d with h | h
      · rw[h]; exact hb
      · exact j p h hn
theorem Ut.put(h:Ut w0 K0 B g0 W w K E n N bs qs)(i:Nat)(hi:bs[i]? = some (g,cs,t))(C:Chg (· = g) w w')(Y:Blk w' g cs' t)(j:t≠5):Ut w0 K0 B g0 W w' K E n N (bs.set i (g,cs',t)) qs:=by
 have hm:=List.mem_of_getElem? hi;obtain⟨X,nk,y⟩:=h.b _ hm;obtain⟨r1,f⟩:=o8 (q:=(g,cs',t)) h.d hi rfl;refine⟨Bk.At.cell h.ta X C y nk j,fun p a => ?_,fun r c=>(h.q r c).cell C (h.e _ hm r c),fun p a => ?_,r1⟩
 ·by_cases e:p=(g,cs',t)
  ·subst e;exact⟨Y,nk,y⟩
  ·rcases eK a with q | q
   ·exact absurd q e
   ·exact⟨(h.b p q).1.chg C (f p a e),(h.b p q).2⟩
 ·rcases eK a with q | q
  ·rw[q]
   show ∀ r∈qs,r.2.2.1=0\/r.1≠g
   exact h.e _ hm
  ·exact h.e p q
end
end
end Fo
end
section
namespace Fo
open Go.RowKit Go.Lib Pg Lim Gl Kv Bk Pw
attribute [local go_sem] Oper.semAt_some
set_option linter.unusedVariables false
set_option linter.unusedSimpArgs false
section
variable {n g B N n0 c0 z0 n1 c1 z1 n2 c2 z2 n3 c3 z3:Nat}{w:World}{K:Nat->Prop}{E:aE}{W:List aE}{rt tk un pe id x0 x1 x2 x3:Int}{jl bo:Bool}{a0 a1 a2 a3 a4 a5 ao:Option Addr}
theorem rscc{l:Fr}{P:Program}{fn:Func}(j k:Nat){T T2:TypeId}{g2:Nat}{u v:Value}(h:fn.results=#[.cell j T,.cell k T2])(hu:lk l j=some (.pointer (some ⟨g,0,none⟩)))(hv:lk l k=some (.pointer (some ⟨g2,0,none⟩)))(e:(loadVar T ⟨g,0,none⟩).run P w=.ok u w)(b:(loadVar T2 ⟨g2,0,none⟩).run P w=.ok v w)(a:Act)(r:Rd n [] l a):(results fn a.tmps).run P w=.ok (.tuple #[u,v]) w:=by
 have d:=r.gD hu;have c:=r.gD hv;simp at d c;simp[results,h,d,c,asAddr,e,b]
theorem dm(w:World)(K:Nat->Prop):Nq w K 0 none 0 0 0:=⟨.inl rfl,.inl rfl,(mJ w 0).to⟩
structure StE(B:Nat)(w:World)(K:Nat->Prop)(g:Nat)(E:aE)(W:List aE)(n N:Nat)(rt tk:Int)(jl:Bool)(un:Int)(bo:Bool)(id x0 x2 x3:Int)(n0 n2 n3:Nat)(e:Ending)(w':World):Prop where
 ex:∃ b0 k0 d0 y0 b2 k2 d2 y2 b3 k3 d3 y3 K' n' N',e=.returned (.agg #[.int .u64 rt,.int .u64 tk,.slice b0 k0 d0,.bool jl,.int .u64 un,.bool bo,.int .u64 1,.slice none 0 0,.slice b2 k2 d2,.slice b3 k3 d3])/\Sx B w' K' g (dx E id 0) W n' N'/\n'<=n + 10/\N'<=N + 10/\(∀ b,K' b->K b\/w.heap.size<=b)/\Chg K w w'/\Nq w' K' y0 b0 k0 d0 (x0)/\k0<=n0 + 1/\(k0=0\/w.heap.size<=y0)/\Nq w' K' y2 b2 k2 d2 (x2)/\k2<=n2 + 1/\(k2=0\/w.heap.size<=y2)/\Nq w' K' y3 b3 k3 d3 (x3)/\k3<=n3 + 1/\(k3=0\/w.heap.size<=y3)
theorem nP(h:Sx B w K g E W n N)(hid:0<=id/\id < 18446744073709551616)(Q:Nk w K z0 a0 n0 c0 x0)(m0:n0<=100000)(M:Nk w K z1 a1 n1 c1 x1)(m1:n1<=100000)(Q2:Nk w K z2 a2 n2 c2 x2)(m2:n2<=100000)(R:Nk w K z3 a3 n3 c3 x3)(m3:n3<=100000)(hn:n + 40<=4000000000000000000)(hN:N + 40<=100000000):Calls Tryz.prog 17 #[pg g,.int .u64 id,.agg #[.int .u64 rt,.int .u64 tk,.slice a0 n0 c0,.bool jl,.int .u64 un,.bool bo,.int .u64 pe,.slice a1 n1 c1,.slice a2 n2 c2,.slice a3 n3 c3]] w (StE B w K g E W n N rt tk jl un bo id x0 x2 x3 n0 n2 n3):=by
 have U:=yF h;refine aO (n:=16) Tryz.func17 rfl (by kernel_rfl) (by kernel_rfl) ?_
 refine ax (aA (ta 5 [.int .u64 rt,.int .u64 tk,.slice a0 n0 c0,.bool jl,.int .u64 un,.bool bo,.int .u64 pe,.slice a1 n1 c1,.slice a2 n2 c2,.slice a3 n3 c3] 39 (pg) ?_));intro v1 g2 p r B;replace U:=U.new p r B;clear p r B;refine ta 6 [.int .u64 0,.int .u64 0,.slice none 0 0,.bool false,.int .u64 0,.bool false,.int .u64 0,.slice none 0 0,.slice none 0 0,.slice none 0 0] 39 (pg) ?_
 intro v3 g4 s q B;replace U:=U.new s q B;clear s q B;refine ay (ah (ax (aA (tlr 7 [.int .u64 rt,.int .u64 tk,.slice a0 n0 c0,.bool jl,.int .u64 un,.bool bo,.int .u64 pe,.slice a1 n1 c1,.slice a2 n2 c2,.slice a3 n3 c3] (U.bk 1 rfl) 0 ?_))));refine tc 8 44 #[.agg #[.int .u64 rt,.int .u64 tk,.slice a0 n0 c0,.bool jl,.int .u64 un,.bool bo,.int .u64 pe,.slice a1 n1 c1,.slice a2 n2 c2,.slice a3 n3 c3]] (ja (Q.op U.ta.km U.ta.cc).nat (by omega) (M.op U.ta.km U.ta.cc).nat (by omega) (Q2.op U.ta.km U.ta.cc).nat (by omega) (R.op U.ta.km U.ta.cc).nat (by omega)) ?_
 rintro _ v9 ⟨f,c,a,V,o,l,m,P,k,e,b,zv7,i,j,d,O,rfl,H,v,Z,F,u,mv6,M2,x,J,G,y,aa,B⟩;refine⟨_,rfl,?_⟩;have D:=ne3 v U.ta.size;have ab:=ne3 u U.ta.size;have A:=ne3 x U.ta.size;have z:=ne3 y U.ta.size;have L:=U.lt;replace U:=((((U.keep B).add L (eu U.ta.sx H v) v).add L (eu U.ta.sx F u) u).add L (eu U.ta.sx M2 x) x).add L (eu U.ta.sx G y) y;clear L B H v F u M2 x G y;refine ts (U.bk 1 rfl) 0 (.agg #[.int .u64 rt,.int .u64 tk,.slice f c a,.bool jl,.int .u64 un,.bool bo,.int .u64 pe,.slice o l m,.slice k e b,.slice i j d]) [.int .u64 rt,.int .u64 tk,.slice f c a,.bool jl,.int .u64 un,.bool bo,.int .u64 pe,.slice o l m,.slice k e b,.slice i j d] [.int .u64 rt,.int .u64 tk,.slice f c a,.bool jl,.int .u64 un,.bool bo,.int .u64 pe,.slice o l m,.slice k e b,.slice i j d] ?_
 intro v10 Y C;replace U:=U.put 1 rfl C Y (by decide);clear Y C;refine ay (ah (ax (aA (t 9 (.agg #[.slice none 0 0]) ?_))));refine t 10 (pq g2 6) ?_
 refine ts (U.bk 1 rfl) 6 (.int .u64 1) [.int .u64 1] [.int .u64 rt,.int .u64 tk,.slice f c a,.bool jl,.int .u64 un,.bool bo,.int .u64 1,.slice o l m,.slice k e b,.slice i j d] ?_
 intro v11 Y C;replace U:=U.put 1 rfl C Y (by decide);clear Y C;refine t 11 (pq g2 7) ?_
 refine ts (U.bk 1 rfl) 7 (.agg #[.slice none 0 0]) [.slice none 0 0] [.int .u64 rt,.int .u64 tk,.slice f c a,.bool jl,.int .u64 un,.bool bo,.int .u64 1,.slice none 0 0,.slice k e b,.slice i j d] ?_
 intro v12 Y C;replace U:=U.put 1 rfl C Y (by decide);clear Y C;refine ay (ah (ax (aA (t 12 (pg g) ?_))));refine t 13 (.int .u64 id) ?_
 refine tc 14 45 #[pg g,.int .u64 id,.int .u64 0] (j7 U.ta.sx hid (by omega) (by omega)) ?_
 rintro _ v14 ⟨rfl,K13,S,I,hC⟩;refine⟨_,rfl,?_⟩;replace U:=U.op S I hC;clear S I hC;refine ay (ah (aY [(5,pg g2),(6,pg g4)] (by kernel_rfl) ?_));refine ax (aA (tlr 15 [.int .u64 rt,.int .u64 tk,.slice f c a,.bool jl,.int .u64 un,.bool bo,.int .u64 1,.slice none 0 0,.slice k e b,.slice i j d] (U.bk 1 rfl) 0 ?_));refine ts (U.bk 0 rfl) 0 (.agg #[.int .u64 rt,.int .u64 tk,.slice f c a,.bool jl,.int .u64 un,.bool bo,.int .u64 1,.slice none 0 0,.slice k e b,.slice i j d]) [.int .u64 rt,.int .u64 tk,.slice f c a,.bool jl,.int .u64 un,.bool bo,.int .u64 1,.slice none 0 0,.slice k e b,.slice i j d] [.int .u64 rt,.int .u64 tk,.slice f c a,.bool jl,.int .u64 un,.bool bo,.int .u64 1,.slice none 0 0,.slice k e b,.slice i j d] ?_
 intro X Y C;replace U:=U.put 0 rfl C Y (by decide);clear Y C;refine ay (ah (aV (aX (.agg #[.int .u64 rt,.int .u64 tk,.slice f c a,.bool jl,.int .u64 un,.bool bo,.int .u64 1,.slice none 0 0,.slice k e b,.slice i j d]) (rsc 6 (T:=39) (by kernel_rfl) (by kernel_rfl) (lr (U.bk 0 rfl) 0)) ?_)));exact⟨_,_,_,_,_,_,_,_,_,_,_,_,_,_,_,rfl,U.ta.sx,by omega,by omega,U.ta.km,U.ta.cc,(U.nq 3 rfl),by omega,D,(U.nq 1 rfl),by omega,A,(U.nq 0 rfl),by omega,z⟩
theorem xG{p:Int}(h:Sx B w K g E W n N)(hid:0<=id/\id < 18446744073709551616)(e:Nk w K z0 a0 n0 c0 x0)(m0:n0<=100000)(d:Nk w K z1 a1 n1 c1 x1)(m1:n1<=100000)(hn:n + 40<=4000000000000000000)(u:N + 40<=100000000):Calls Tryz.prog 33 #[pg g,.int .u64 id,.agg #[.slice a0 n0 c0,.int .u64 p,.slice a1 n1 c1]] w (SxF B w K g (letE E id p) W n N (.tuple #[])):=by
 have A:=h.at
 refine aO (n:=11) Tryz.func33 rfl (by kernel_rfl) (by kernel_rfl) ?_
 refine ax (aA (ta 5 [.slice a0 n0 c0,.int .u64 p,.slice a1 n1 c1] 54 (pg) ?_));intro v1 g2 c b B;have l:=Nat.le_trans A.size b;have a:=A.new b;have i:=ne1 e.lt b;have j:=ne1 d.lt b;replace A:=A.keep B;replace e:=e.keep B;replace d:=d.keep B;clear B;refine ay (ah (aA (t 6 (pg g) ?_)));refine t 7 (.int .u64 id) ?_
 refine t 8 (pq g2 1) ?_
 refine tl 9 (.int .u64 p) c 1 ?_
 refine tc 10 57 #[pg g,.int .u64 id,.int .u64 p] (vr A.sx hid (by omega) (by omega)) ?_
 rintro _ o ⟨rfl,s,r,q,S,k,m,f,hC⟩;refine⟨_,rfl,?_⟩;replace e:=e.op f hC;replace d:=d.op f hC;replace a:=opX c a f hC;replace c:=a.1;replace a:=a.2;replace A:=A.op S f hC;clear S f hC;refine ay (je (.tuple #[]) (rs0 (by kernel_rfl)) ?_);exact⟨rfl,_,_,_,A.sx,by omega,by omega,A.km,A.cc⟩
structure HoE(B:Nat)(w:World)(K:Nat->Prop)(g:Nat)(E:aE)(W:List aE)(n N:Nat)(tk pe id x0 x4:Int)(n0 n4:Nat)(e:Ending)(w':World):Prop where
 ex:∃ b0 k0 d0 y0 b1 k1 d1 y1 K' n' N',e=.returned (.agg #[.slice b0 k0 d0,.int .u64 ((pe - 1) % 18446744073709551616),.slice b1 k1 d1])/\Sx B w' K' g (dx E id ((pe - 1) % 18446744073709551616)) W n' N'/\n'<=n + 10/\N'<=N + 10/\(∀ b,K' b->K b\/w.heap.size<=b)/\Chg K w w'/\Nq w' K' y0 b0 k0 d0 (x4)/\k0<=n4 + 1/\(k0=0\/w.heap.size<=y0)/\Nq w' K' y1 b1 k1 d1 (x4 * (tk * U36) / x0)/\k1<=n0 + n4 + 40/\(k1=0\/w.heap.size<=y1)
theorem jB{v:Int}{n4 c4 z4:Nat}{x4:Int}{m r z5:Nat}{J:Int}(h:Sx B w K g E W n N)(hid:0<=id/\id < 18446744073709551616)(u:0<=tk/\tk < 18446744073709551616)(G:Nk w K z0 a0 n0 c0 x0)(m0:n0<=100000)(O:Nk w K z1 a1 n1 c1 x1)(m1:n1<=100000)(Z:Nk w K z2 a2 n2 c2 x2)(m2:n2<=100000)(Q:Nk w K z3 a3 n3 c3 x3)(m3:n3<=100000)(x:Nk w K z4 a4 n4 c4 x4)(m4:n4<=100000)(P:Nk w K z5 a5 m r J)(m5:m<=100000)(hn:n + 40<=4000000000000000000)(X:N + 40<=100000000):Calls Tryz.prog 19 #[pg g,.int .u64 id,.agg #[.int .u64 rt,.int .u64 tk,.slice a0 n0 c0,.bool jl,.int .u64 un,.bool bo,.int .u64 pe,.slice a1 n1 c1,.slice a2 n2 c2,.slice a3 n3 c3],.agg #[.slice a4 n4 c4,.int .u64 v,.slice a5 m r]] w (HoE B w K g E W n N tk pe id x0 x4 n0 n4):=by
 have U:=yF h;refine aO (n:=29) Tryz.func19 rfl (by kernel_rfl) (by kernel_rfl) ?_
 refine ax (aA (ta 6 [.int .u64 rt,.int .u64 tk,.slice a0 n0 c0,.bool jl,.int .u64 un,.bool bo,.int .u64 pe,.slice a1 n1 c1,.slice a2 n2 c2,.slice a3 n3 c3] 39 (pg) ?_));intro v1 g2 j p B;replace U:=U.new j p B;clear j p B;refine ta 7 [.slice a4 n4 c4,.int .u64 v,.slice a5 m r] 54 (pg) ?_
 intro v3 g4 k o B;replace U:=U.new k o B;clear k o B;refine ta 8 [.slice none 0 0,.int .u64 0,.slice none 0 0] 54 (pg) ?_
 intro v5 g6 l i B;replace U:=U.new l i B;clear l i B;refine ay (ah (ax (aA (t 10 (pq g2 6) ?_))));refine tl 11 (.int .u64 pe) (U.bk 2 rfl) 6 ?_
 refine tq 12 (.int .u64 (IntKind.u64.wrap (pe - 1))) (.int .u64 ((pe - 1) % 18446744073709551616)) (congrArg (Value.int .u64) (IntKind.wrap_u64 _)) ?_
 refine t 9 (.int .u64 ((pe - 1) % 18446744073709551616)) ?_
 refine ay (ah (ax (aA (t 13 (pg g) ?_))));refine t 14 (.int .u64 id) ?_
 refine t 15 (.int .u64 ((pe - 1) % 18446744073709551616)) ?_
 refine tc 16 45 #[pg g,.int .u64 id,.int .u64 ((pe - 1) % 18446744073709551616)] (j7 U.ta.sx hid (by omega) (by omega)) ?_
 rintro _ R ⟨rfl,V,S,F,hC⟩;refine⟨_,rfl,?_⟩;replace U:=U.op S F hC;clear S F hC;refine ay (ah (aY [(6,pg g2),(7,pg g4),(8,pg g6),(9,.int .u64 ((pe - 1) % 18446744073709551616))] (by kernel_rfl) ?_));refine ax ?_
 replace U:=U.drew;refine cy (fun D=>Blk D g4 [.slice a4 n4 c4,.int .u64 v,.slice a5 m r] 54/\Blk D g2 [.int .u64 rt,.int .u64 tk,.slice a0 n0 c0,.bool jl,.int .u64 un,.bool bo,.int .u64 pe,.slice a1 n1 c1,.slice a2 n2 c2,.slice a3 n3 c3] 39) (fun _=>false) ⟨(U.bk 1 rfl),(U.bk 2 rfl)⟩ ?_
 refine z 0 17 (pg g4) ?_
 refine zlr 1 18 [.slice a4 n4 c4] (fun _ h=>h.1) 0 ?_
 refine z 3 20 (.int .u64 ((pe - 1) % 18446744073709551616)) ?_
 refine z 4 21 (pq g2 1) ?_
 refine zl 5 22 (.int .u64 tk) (fun _ h=>h.2) 1 ?_
 refine z 6 23 (pq g2 2) ?_
 refine zlr 7 24 [.slice a0 n0 c0] (fun _ h=>h.2) 2 ?_
 refine z 8 25 (pg g4) ?_
 refine zlr 9 26 [.slice a4 n4 c4] (fun _ h=>h.1) 0 ?_
 refine zc 2 19 47 #[.agg #[.slice a4 n4 c4]] (jk (x.op U.ta.km U.ta.cc).nat (by omega)) ?_
 rintro _ v10 ⟨e,f,d,L,rfl,M,h,H,B⟩;have s:=ne3 h U.ta.size;replace U:=U.num M h B;clear M h B;refine⟨_,rfl,⟨(U.bk 1 rfl),(U.bk 2 rfl)⟩,?_⟩;refine zc 10 27 48 #[.int .u64 tk,.agg #[.slice a0 n0 c0],.agg #[.slice a4 n4 c4]] (vZ (G.op U.ta.km U.ta.cc).nat (by omega) (x.op U.ta.km U.ta.cc).nat (by omega) u) ?_
 rintro _ v12 ⟨a,c,b,A,rfl,M,h,y,B⟩;have q:=ne3 h U.ta.size;replace U:=U.num M h B;clear M h B;refine⟨_,rfl,⟨(U.bk 1 rfl),(U.bk 2 rfl)⟩,?_⟩;refine zr 11 28 (.agg #[.slice e f d,.int .u64 ((pe - 1) % 18446744073709551616),.slice a c b]) (by intro _ _; kernel_rfl) ?_
 refine zs 12 (U.bk 0 rfl) 0 (.agg #[.slice e f d,.int .u64 ((pe - 1) % 18446744073709551616),.slice a c b]) [.slice e f d,.int .u64 ((pe - 1) % 18446744073709551616),.slice a c b] [.slice e f d,.int .u64 ((pe - 1) % 18446744073709551616),.slice a c b] ?_
 intro I Y C;replace U:=U.put 0 rfl C Y (by decide);clear Y C;refine⟨⟨(U.bk 1 rfl),(U.bk 2 rfl)⟩,?_⟩;refine bC (ah (aY [(8,pg g6)] (by kernel_rfl) ?_));refine aV (aX (.agg #[.slice e f d,.int .u64 ((pe - 1) % 18446744073709551616),.slice a c b]) (rsc 8 (T:=54) (by kernel_rfl) (by kernel_rfl) (lr (U.bk 0 rfl) 0)) ?_);exact⟨_,_,_,_,_,_,_,_,_,_,_,rfl,U.ta.sx,by omega,by omega,U.ta.km,U.ta.cc,(U.nq 1 rfl),by omega,s,(U.nq 0 rfl),by omega,q⟩
def Bo(E:aE)(id p b a:Int):aE:=dx (put E (Ky.mk 8 id p) (cv b a)) id p
structure CuE(B:Nat)(w:World)(K:Nat->Prop)(g:Nat)(E:aE)(W:List aE)(n N:Nat)(rt tk:Int)(jl:Bool)(un:Int)(bo:Bool)(pe id af x0 x1 x2 x3:Int)(n0 n1 n2 n3:Nat)(e:Ending)(w':World):Prop where
 ex:∃ b0 k0 d0 y0 b1 k1 d1 y1 b2 k2 d2 y2 b3 k3 d3 y3 K' n' N',e=.returned (.agg #[.int .u64 rt,.int .u64 af,.slice b0 k0 d0,.bool jl,.int .u64 un,.bool bo,.int .u64 pe,.slice b1 k1 d1,.slice b2 k2 d2,.slice b3 k3 d3])/\Sx B w' K' g (Bo E id ((pe - 1) % 18446744073709551616) tk af) W n' N'/\n'<=n + 10/\N'<=N + 10/\(∀ b,K' b->K b\/w.heap.size<=b)/\Chg K w w'/\Nq w' K' y0 b0 k0 d0 (x0)/\k0<=n0 + 1/\(k0=0\/w.heap.size<=y0)/\Nq w' K' y1 b1 k1 d1 (x1)/\k1<=n1 + 1/\(k1=0\/w.heap.size<=y1)/\Nq w' K' y2 b2 k2 d2 (x2)/\k2<=n2 + 1/\(k2=0\/w.heap.size<=y2)/\Nq w' K' y3 b3 k3 d3 (x3)/\k3<=n3 + 1/\(k3=0\/w.heap.size<=y3)
theorem Bv{af:Int}(h:Sx B w K g E W n N)(hid:0<=id/\id < 18446744073709551616)(u:Nk w K z0 a0 n0 c0 x0)(m0:n0<=100000)(y:Nk w K z1 a1 n1 c1 x1)(m1:n1<=100000)(x:Nk w K z2 a2 n2 c2 x2)(m2:n2<=100000)(v:Nk w K z3 a3 n3 c3 x3)(m3:n3<=100000)(hn:n + 40<=4000000000000000000)(hN:N + 40<=100000000):Calls Tryz.prog 34 #[pg g,.int .u64 id,.agg #[.int .u64 rt,.int .u64 tk,.slice a0 n0 c0,.bool jl,.int .u64 un,.bool bo,.int .u64 pe,.slice a1 n1 c1,.slice a2 n2 c2,.slice a3 n3 c3],.int .u64 af] w (CuE B w K g E W n N rt tk jl un bo pe id af x0 x1 x2 x3 n0 n1 n2 n3):=by
 have A:=h.at
 refine aO (n:=32) Tryz.func34 rfl (by kernel_rfl) (by kernel_rfl) ?_
 refine ax (aA (ta 6 [.int .u64 rt,.int .u64 tk,.slice a0 n0 c0,.bool jl,.int .u64 un,.bool bo,.int .u64 pe,.slice a1 n1 c1,.slice a2 n2 c2,.slice a3 n3 c3] 39 (pg) ?_));intro v1 g2 a X B;have zg2:=Nat.le_trans A.size X;have c:=A.new X;have ag:=ne1 u.lt X;have ad:=ne1 y.lt X;have ab:=ne1 x.lt X;have ac:=ne1 v.lt X;replace A:=A.keep B;replace u:=u.keep B;replace y:=y.keep B;replace x:=x.keep B;replace v:=v.keep B;clear B;have lXg2:=a.lt;refine ta 8 [.int .u64 0,.int .u64 0,.slice none 0 0,.bool false,.int .u64 0,.bool false,.int .u64 0,.slice none 0 0,.slice none 0 0,.slice none 0 0] 39 (pg) ?_
 intro v3 g4 b V B;have zg4:=Nat.le_trans A.size V;have d:=A.new V;have av:=ne1 u.lt V;have au:=ne1 y.lt V;have ap:=ne1 x.lt V;have aw:=ne1 v.lt V;replace A:=A.keep B;replace u:=u.keep B;replace y:=y.keep B;replace x:=x.keep B;replace v:=v.keep B;replace a:=a.keep B;clear B;refine ay (ah (ax (aA (t 10 (pq g2 6) ?_))));refine tl 11 (.int .u64 pe) a 6 ?_
 refine tq 12 (.int .u64 (IntKind.u64.wrap (pe - 1))) (.int .u64 ((pe - 1) % 18446744073709551616)) (congrArg (Value.int .u64) (IntKind.wrap_u64 _)) ?_
 refine t 9 (.int .u64 ((pe - 1) % 18446744073709551616)) ?_
 refine ay (ah (ax ?_));replace A:=A.drew;replace u:=u.drew;replace y:=y.drew;replace x:=x.drew;replace v:=v.drew;replace a:=a.drew;replace b:=b.drew;refine cy (fun w'=>Blk w' g2 [.int .u64 rt,.int .u64 tk,.slice a0 n0 c0,.bool jl,.int .u64 un,.bool bo,.int .u64 pe,.slice a1 n1 c1,.slice a2 n2 c2,.slice a3 n3 c3] 39) (fun _=>false) a ?_
 refine z 0 13 (pg g) ?_
 refine z 1 14 (.int .u64 id) ?_
 refine z 2 15 (.int .u64 ((pe - 1) % 18446744073709551616)) ?_
 refine z 4 17 (pq g2 1) ?_
 refine zl 5 18 (.int .u64 tk) (fun _ h=>h) 1 ?_
 refine z 6 19 (.int .u64 af) ?_
 refine zr 7 20 (.agg #[.int .u64 tk,.int .u64 af]) (by intro _ _; kernel_rfl) ?_
 refine zc 3 16 65 #[.int .i64 8,.int .u64 id,.int .u64 ((pe - 1) % 18446744073709551616)] (vG hid (by decide)) ?_
 rintro _ v7 ⟨kv6,rfl,U5,B⟩;replace A:=A.keep B;replace u:=u.keep B;replace y:=y.keep B;replace x:=x.keep B;replace v:=v.keep B;replace a:=a.keep B;replace b:=b.keep B;clear B;refine⟨_,rfl,a,?_⟩;refine zc 8 21 66 #[.agg #[.int .u64 tk,.int .u64 af]] (DE) ?_
 rintro _ v10 ⟨pv9,rfl,U8,B⟩;replace A:=A.keep B;replace u:=u.keep B;replace y:=y.keep B;replace x:=x.keep B;replace v:=v.keep B;replace a:=a.keep B;replace b:=b.keep B;replace U5:=eO U5 B;clear B;refine⟨_,rfl,a,?_⟩;refine zc 9 22 64 #[pg g,kv6,pv9] (qset A.sx U5 (mu id ((pe - 1) % 18446744073709551616)) U8 (Nat.le_trans (Ah _ _) (by decide)) (by omega) (by omega)) ?_
 rintro _ v12 ⟨rfl,K11,S,M,hC⟩;replace u:=u.op M hC;replace y:=y.op M hC;replace x:=x.op M hC;replace v:=v.op M hC;replace c:=opX a c M hC;replace a:=c.1;replace c:=c.2;replace d:=opX b d M hC;replace b:=d.1;replace d:=d.2;replace U5:=A.byu U5 hC;replace U8:=A.byu U8 hC;replace A:=A.op S M hC;clear S M hC;clear U5;clear U8;refine⟨_,rfl,a,?_⟩;refine bC (ah (aY [(0,pg g),(1,.int .u64 id),(3,.int .u64 af),(6,pg g2),(8,pg g4),(9,.int .u64 ((pe - 1) % 18446744073709551616))] (by kernel_rfl) ?_));refine ax (aA (t 23 (pg g) ?_));refine t 24 (.int .u64 id) ?_
 refine t 25 (.int .u64 ((pe - 1) % 18446744073709551616)) ?_
 refine tc 26 45 #[pg g,.int .u64 id,.int .u64 ((pe - 1) % 18446744073709551616)] (j7 A.sx hid (by omega) (by omega)) ?_
 rintro _ v14 ⟨rfl,K13,S,M,hC⟩;refine⟨_,rfl,?_⟩;replace u:=u.op M hC;replace y:=y.op M hC;replace x:=x.op M hC;replace v:=v.op M hC;replace c:=opX a c M hC;replace a:=c.1;replace c:=c.2;replace d:=opX b d M hC;replace b:=d.1;replace d:=d.2;replace A:=A.op S M hC;clear S M hC;refine ay (ah (ax (aA (tlr 27 [.int .u64 rt,.int .u64 tk,.slice a0 n0 c0,.bool jl,.int .u64 un,.bool bo,.int .u64 pe,.slice a1 n1 c1,.slice a2 n2 c2,.slice a3 n3 c3] a 0 ?_))));refine tc 28 44 #[.agg #[.int .u64 rt,.int .u64 tk,.slice a0 n0 c0,.bool jl,.int .u64 un,.bool bo,.int .u64 pe,.slice a1 n1 c1,.slice a2 n2 c2,.slice a3 n3 c3]] (ja u.nat (by omega) y.nat (by omega) x.nat (by omega) v.nat (by omega)) ?_
 rintro _ v19 ⟨i,m,k,zv15,o,q,j,zv16,e,s,r,zv17,p,f,l,zv18,rfl,al,R,mv15,am,O,mv16,ak,Q,mv17,aj,P,mv18,B⟩;refine⟨_,rfl,?_⟩;have U:=ne2 R a.lt;have aa:=ne2 R b.lt;have ar:=ne3 R A.size;have H:=eu A.sx al R;clear al R;have L:=ne2 O a.lt;have ae:=ne2 O b.lt;have ao:=ne3 O A.size;have F:=eu A.sx am O;clear am O;have J:=ne2 Q a.lt;have ai:=ne2 Q b.lt;have aq:=ne3 Q A.size;have D:=eu A.sx ak Q;clear ak Q;have I:=ne2 P a.lt;have Z:=ne2 P b.lt;have an:=ne3 P A.size;have G:=eu A.sx aj P;clear aj P;replace A:=A.keep B;replace u:=u.keep B;replace y:=y.keep B;replace x:=x.keep B;replace v:=v.keep B;replace a:=a.keep B;replace b:=b.keep B;clear B;refine ts a 0 (.agg #[.int .u64 rt,.int .u64 tk,.slice i m k,.bool jl,.int .u64 un,.bool bo,.int .u64 pe,.slice o q j,.slice e s r,.slice p f l]) [.int .u64 rt,.int .u64 tk,.slice i m k,.bool jl,.int .u64 un,.bool bo,.int .u64 pe,.slice o q j,.slice e s r,.slice p f l] [.int .u64 rt,.int .u64 tk,.slice i m k,.bool jl,.int .u64 un,.bool bo,.int .u64 pe,.slice o q j,.slice e s r,.slice p f l] ?_
 intro v20 Y C;replace A:=Bk.At.cell A a C zg2 c (by decide);replace u:=u.cell C ag;replace y:=y.cell C ad;replace x:=x.cell C ab;replace v:=v.cell C ac;replace b:=b.chg C (show g4≠g2 by omega);replace H:=H.cell C U;replace F:=F.cell C L;replace D:=D.cell C J;replace G:=G.cell C I;clear C a;have a:=Y;clear Y;refine ay (ah (ax (aA (t 29 (.int .u64 af) ?_))));refine t 30 (pq g2 1) ?_
 refine ts a 1 (.int .u64 af) [.int .u64 af] [.int .u64 rt,.int .u64 af,.slice i m k,.bool jl,.int .u64 un,.bool bo,.int .u64 pe,.slice o q j,.slice e s r,.slice p f l] ?_
 intro v21 Y C;replace A:=Bk.At.cell A a C zg2 c (by decide);replace u:=u.cell C ag;replace y:=y.cell C ad;replace x:=x.cell C ab;replace v:=v.cell C ac;replace b:=b.chg C (show g4≠g2 by omega);replace H:=H.cell C U;replace F:=F.cell C L;replace D:=D.cell C J;replace G:=G.cell C I;clear C a;have a:=Y;clear Y;refine ay (ah (ax (aA (tlr 31 [.int .u64 rt,.int .u64 af,.slice i m k,.bool jl,.int .u64 un,.bool bo,.int .u64 pe,.slice o q j,.slice e s r,.slice p f l] a 0 ?_))));refine ts b 0 (.agg #[.int .u64 rt,.int .u64 af,.slice i m k,.bool jl,.int .u64 un,.bool bo,.int .u64 pe,.slice o q j,.slice e s r,.slice p f l]) [.int .u64 rt,.int .u64 af,.slice i m k,.bool jl,.int .u64 un,.bool bo,.int .u64 pe,.slice o q j,.slice e s r,.slice p f l] [.int .u64 rt,.int .u64 af,.slice i m k,.bool jl,.int .u64 un,.bool bo,.int .u64 pe,.slice o q j,.slice e s r,.slice p f l] ?_
 intro v22 Y C;replace A:=Bk.At.cell A b C zg4 d (by decide);replace u:=u.cell C av;replace y:=y.cell C au;replace x:=x.cell C ap;replace v:=v.cell C aw;replace a:=a.chg C (show g2≠g4 by omega);replace H:=H.cell C aa;replace F:=F.cell C ae;replace D:=D.cell C ai;replace G:=G.cell C Z;clear C b;have b:=Y;clear Y;refine ay (ah (aV (aX (.agg #[.int .u64 rt,.int .u64 af,.slice i m k,.bool jl,.int .u64 un,.bool bo,.int .u64 pe,.slice o q j,.slice e s r,.slice p f l]) (rsc 8 (T:=39) (by kernel_rfl) (by kernel_rfl) (lr b 0)) ?_)));exact⟨_,_,_,_,_,_,_,_,_,_,_,_,_,_,_,_,_,_,_,rfl,A.sx,by omega,by omega,A.km,A.cc,H,by omega,ar,F,by omega,ao,D,by omega,aq,G,by omega,an⟩
def eW(E:aE)(id pe tk cur:Int):aE:=letE (lK E id pe (hX (got E (Ky.mk 7 id ((pe - 1) % 18446744073709551616))) 0 + cur / tk) 1) id ((pe - 1) % 18446744073709551616)
structure ClE(B:Nat)(w:World)(K:Nat->Prop)(g:Nat)(E:aE)(W:List aE)(n N:Nat)(rt tk:Int)(jl:Bool)(un:Int)(bo:Bool)(pe id x0 x1 x2 x3:Int)(n0 n1 n2 n3:Nat)(e:Ending)(w':World):Prop where
 ex:∃ b0 k0 d0 y0 b1 k1 d1 y1 b2 k2 d2 y2 b3 k3 d3 y3 K' n' N',e=.returned (.tuple #[.agg #[.int .u64 rt,.int .u64 tk,.slice b0 k0 d0,.bool jl,.int .u64 un,.bool bo,.int .u64 ((pe + 1) % 18446744073709551616),.slice none 0 0,.slice b2 k2 d2,.slice b3 k3 d3],.agg #[.slice b1 k1 d1]])/\Sx B w' K' g (eW E id pe tk x1) W n' N'/\n'<=n + 20/\N'<=N + 20/\(∀ b,K' b->K b\/w.heap.size<=b)/\Chg K w w'/\Nq w' K' y0 b0 k0 d0 (x0)/\k0<=n0 + 1/\(k0=0\/w.heap.size<=y0)/\Nq w' K' y1 b1 k1 d1 ((if tk=0 then x1 else 0))/\k1<=n1 + 1/\(k1=0\/w.heap.size<=y1)/\Nq w' K' y2 b2 k2 d2 ((if tk=0 then jc x2 x1 else x2))/\k2<=n2 + 1/\(k2=0\/w.heap.size<=y2)/\Nq w' K' y3 b3 k3 d3 (x3)/\k3<=n3 + 1/\(k3=0\/w.heap.size<=y3)
theorem Nq.eqv{z c:Nat}{x y:Int}(h:Nq w K z ao n c x)(e:x=y):Nq w K z ao n c y:=e▸h
theorem iz(h:Sx B w K g E W n N)(hid:0<=id/\id < 18446744073709551616)(htk:0<=tk/\tk < 18446744073709551616)(Q0:Nk w K z0 a0 n0 c0 x0)(m0:n0<=100000)(Q1:Nk w K z1 a1 n1 c1 x1)(m1:n1<=100000)(Q2:Nk w K z2 a2 n2 c2 x2)(m2:n2<=100000)(Q3:Nk w K z3 a3 n3 c3 x3)(m3:n3<=100000)(hn:n + 60<=4000000000000000000)(hN:N + 60<=100000000):Calls Tryz.prog 22 #[pg g,.int .u64 id,.agg #[.int .u64 rt,.int .u64 tk,.slice a0 n0 c0,.bool jl,.int .u64 un,.bool bo,.int .u64 pe,.slice a1 n1 c1,.slice a2 n2 c2,.slice a3 n3 c3]] w (ClE B w K g E W n N rt tk jl un bo pe id x0 x1 x2 x3 n0 n1 n2 n3):=by
 have U:=yF h;refine aO (n:=60) Tryz.func22 rfl (by kernel_rfl) (by kernel_rfl) ?_
 refine ax (aA (ta 5 [.int .u64 rt,.int .u64 tk,.slice a0 n0 c0,.bool jl,.int .u64 un,.bool bo,.int .u64 pe,.slice a1 n1 c1,.slice a2 n2 c2,.slice a3 n3 c3] 39 (pg) ?_));intro v1 g2 af ab B;replace U:=U.new af ab B;clear af ab B;refine ta 6 [.int .u64 0,.int .u64 0,.slice none 0 0,.bool false,.int .u64 0,.bool false,.int .u64 0,.slice none 0 0,.slice none 0 0,.slice none 0 0] 39 (pg) ?_
 intro v3 g4 ai aa B;replace U:=U.new ai aa B;clear ai aa B;refine ta 7 [.slice none 0 0] 32 (pg) ?_
 intro v5 g6 Z ae B;replace U:=U.new Z ae B;clear Z ae B;refine ay (ah (ax (aA (tlr 12 [.int .u64 rt,.int .u64 tk,.slice a0 n0 c0,.bool jl,.int .u64 un,.bool bo,.int .u64 pe,.slice a1 n1 c1,.slice a2 n2 c2,.slice a3 n3 c3] (U.bk 2 rfl) 0 ?_))));refine tc 13 44 #[.agg #[.int .u64 rt,.int .u64 tk,.slice a0 n0 c0,.bool jl,.int .u64 un,.bool bo,.int .u64 pe,.slice a1 n1 c1,.slice a2 n2 c2,.slice a3 n3 c3]] (ja (Q0.op U.ta.km U.ta.cc).nat (by omega) (Q1.op U.ta.km U.ta.cc).nat (by omega) (Q2.op U.ta.km U.ta.cc).nat (by omega) (Q3.op U.ta.km U.ta.cc).nat (by omega)) ?_
 rintro _ v11 ⟨i,e,j,zv7,f,k,d,zv8,r,p,q,zv9,c,b,a,zv10,rfl,M0,h0,mv7,M1,h1,mv8,M2,h2,mv9,M3,h3,mv10,B⟩;refine⟨_,rfl,?_⟩;have X:=ne3 h0 U.ta.size;have fv8:=ne3 h1 U.ta.size;have fv9:=ne3 h2 U.ta.size;have J:=ne3 h3 U.ta.size;have L:=U.lt;replace U:=((((U.keep B).add L (eu U.ta.sx M0 h0) h0).add L (eu U.ta.sx M1 h1) h1).add L (eu U.ta.sx M2 h2) h2).add L (eu U.ta.sx M3 h3) h3;clear L B M0 h0 M1 h1 M2 h2 M3 h3;refine ts (U.bk 2 rfl) 0 (.agg #[.int .u64 rt,.int .u64 tk,.slice i e j,.bool jl,.int .u64 un,.bool bo,.int .u64 pe,.slice f k d,.slice r p q,.slice c b a]) [.int .u64 rt,.int .u64 tk,.slice i e j,.bool jl,.int .u64 un,.bool bo,.int .u64 pe,.slice f k d,.slice r p q,.slice c b a] [.int .u64 rt,.int .u64 tk,.slice i e j,.bool jl,.int .u64 un,.bool bo,.int .u64 pe,.slice f k d,.slice r p q,.slice c b a] ?_
 intro v12 Y C;replace U:=U.put 2 rfl C Y (by decide);clear Y C;refine ay (ah (ax (aA (t 14 (pq g2 6) ?_))));refine tl 15 (.int .u64 pe) (U.bk 2 rfl) 6 ?_
 refine tq 16 (.int .u64 (IntKind.u64.wrap (pe - 1))) (.int .u64 ((pe - 1) % 18446744073709551616)) (congrArg (Value.int .u64) (IntKind.wrap_u64 _)) ?_
 refine t 8 (.int .u64 ((pe - 1) % 18446744073709551616)) ?_
 refine ay (ah (aY [(0,pg g),(1,.int .u64 id),(5,pg g2),(6,pg g4),(7,pg g6),(8,.int .u64 ((pe - 1) % 18446744073709551616))] (by kernel_rfl) ?_));refine ax (aA (t 18 (pq g2 7) ?_));refine tlr 19 [.slice f k d] (U.bk 2 rfl) 7 ?_
 refine t 20 (pq g2 1) ?_
 refine tl 21 (.int .u64 tk) (U.bk 2 rfl) 1 ?_
 refine tc 22 30 #[.agg #[.slice f k d],.int .u64 tk] (eOver (U.nq 2 rfl).nat (by omega) htk) ?_
 rintro _ v14 ⟨u,v,s,zq13,rfl,M,h,mq13,B⟩;refine⟨_,rfl,?_⟩;have fq13:=ne3 h U.ta.size;replace U:=U.num M h B;clear M h B;refine t 17 (.tuple #[.agg #[.slice u v s],.int .i64 (dvZ tk)]) ?_
 refine t 23 (.agg #[.slice u v s]) ?_
 refine t 24 (.int .i64 (dvZ tk)) ?_
 refine ta 9 [.slice none 0 0] 32 (pg) ?_
 intro v15 g16 I A B;replace U:=U.new I A B;clear I A B;refine ts (U.bk 0 rfl) 0 (.agg #[.slice u v s]) [.slice u v s] [.slice u v s] ?_
 intro v17 Y C;replace U:=U.put 0 rfl C Y (by decide);clear Y C;refine t 10 (.int .i64 (dvZ tk)) ?_
 refine ay (ah (ax ?_));replace U:=U.drew;refine cy (fun H=>Blk H g2 [.int .u64 rt,.int .u64 tk,.slice i e j,.bool jl,.int .u64 un,.bool bo,.int .u64 pe,.slice f k d,.slice r p q,.slice c b a] 39/\Blk H g16 [.slice u v s] 32) (fun _=>false) ⟨(U.bk 3 rfl),(U.bk 0 rfl)⟩ ?_
 refine z 0 25 (pg g) ?_
 refine z 1 26 (.int .u64 id) ?_
 refine z 2 27 (pq g2 6) ?_
 refine zl 3 28 (.int .u64 pe) (fun _ h=>h.1) 6 ?_
 refine z 4 29 (pg g) ?_
 refine z 5 30 (.int .u64 id) ?_
 refine z 6 31 (.int .u64 ((pe - 1) % 18446744073709551616)) ?_
 refine zlr 8 33 [.slice u v s] (fun _ h=>h.2) 0 ?_
 refine zc 7 32 49 #[pg g,.int .u64 id,.int .u64 ((pe - 1) % 18446744073709551616)] (vJ U.ta.sx hid (by omega) (by omega)) ?_
 rintro _ v20 ⟨ac,ag,ad,rfl,zr18,K19,S,F,hC,Q,mr18,h⟩;have L:=U.lt;replace U:=(U.op S F hC).add L Q h;clear L S F hC Q h;refine⟨_,rfl,⟨(U.bk 3 rfl),(U.bk 0 rfl)⟩,?_⟩;refine zc 9 34 27 #[.agg #[.slice ac ag ad],.agg #[.slice u v s]] (eAdd (U.nq 0 rfl).nat (by omega) (U.nq 1 rfl).nat (by omega)) ?_
 rintro _ v22 ⟨D,G,O,zq21,rfl,M,h,mq21,B⟩;have fq21:=ne3 h U.ta.size;replace U:=U.num M h B;clear M h B;refine⟨_,rfl,⟨(U.bk 3 rfl),(U.bk 0 rfl)⟩,?_⟩;refine zr 10 35 (.agg #[.slice D G O,.int .u64 1]) (by intro _ _; kernel_rfl) ?_
 refine zc 11 36 56 #[pg g,.int .u64 id,.int .u64 pe,.agg #[.slice D G O,.int .u64 1]] (pE U.ta.sx hid (U.nq 0 rfl).nk (by omega) (by omega) (by omega)) ?_
 rintro _ v24 ⟨rfl,K23,S,F,hC⟩;replace U:=U.op S F hC;clear S F hC;refine⟨_,rfl,⟨(U.bk 3 rfl),(U.bk 0 rfl)⟩,?_⟩;refine bC (ah (aY [(0,pg g),(1,.int .u64 id),(5,pg g2),(6,pg g4),(7,pg g6),(8,.int .u64 ((pe - 1) % 18446744073709551616))] (by kernel_rfl) ?_));refine ax (aA (t 37 (pg g) ?_));refine t 38 (.int .u64 id) ?_
 refine t 39 (.int .u64 ((pe - 1) % 18446744073709551616)) ?_
 refine tc 40 57 #[pg g,.int .u64 id,.int .u64 ((pe - 1) % 18446744073709551616)] (vr U.ta.sx hid (by omega) (by omega)) ?_
 rintro _ v29 ⟨rfl,K25,n26,N27,S,qn26,qN27,F,hC⟩;refine⟨_,rfl,?_⟩;replace U:=U.op S F hC;clear S F hC;refine ay (ah (ax (aA (ta 11 [.slice none 0 0] 32 (pg) ?_))));intro v30 y R P B;replace U:=U.new R P B;clear R P B;refine ay (ah (ax (ax (aA (t 41 (pq g2 1) ?_)))));refine tl 42 (.int .u64 tk) (U.bk 4 rfl) 1 ?_
 by_cases x:(tk:Int)=0
 ·refine tq 43 (.bool ((tk:Int) == 0)) (.bool true) (congrArg Value.bool (beq_iff_eq.2 x)) ?_
  refine ay (ah (eU ?_));refine ax (aA (t 44 (pq g2 7) ?_));refine tlr 45 [.slice f k d] (U.bk 4 rfl) 7 ?_
  refine ts (U.bk 0 rfl) 0 (.agg #[.slice f k d]) [.slice f k d] [.slice f k d] ?_
  intro v33 Y C;replace U:=U.put 0 rfl C Y (by decide);clear Y C;refine ay (ah (aA (t 46 (pq g2 8) ?_)));refine tlr 47 [.slice r p q] (U.bk 4 rfl) 8 ?_
  refine t 48 (pq g2 7) ?_
  refine tlr 49 [.slice f k d] (U.bk 4 rfl) 7 ?_
  refine tc 50 52 #[.agg #[.slice r p q],.agg #[.slice f k d]] (qz (U.nq 4 rfl).nat (by omega) (U.nq 5 rfl).nat (by omega)) ?_
  rintro _ v35 ⟨l,o,m,zq34,rfl,M,h,mq34,B⟩;refine⟨_,rfl,?_⟩;have V:=ne3 h U.ta.size;replace U:=U.num M h B;clear M h B;refine t 51 (pq g2 8) ?_
  refine ts (U.bk 4 rfl) 8 (.agg #[.slice l o m]) [.slice l o m] [.int .u64 rt,.int .u64 tk,.slice i e j,.bool jl,.int .u64 un,.bool bo,.int .u64 pe,.slice f k d,.slice l o m,.slice c b a] ?_
  intro v36 Y C;replace U:=U.put 4 rfl C Y (by decide);clear Y C;refine ay (ah (aY [(5,pg g2),(6,pg g4),(7,pg g6),(11,pg y)] (by kernel_rfl) ?_));refine ax (aA (t 52 (pq g2 6) ?_));refine tl 53 (.int .u64 pe) (U.bk 4 rfl) 6 ?_
  refine tq 54 (.int .u64 (IntKind.u64.wrap (pe + 1))) (.int .u64 ((pe + 1) % 18446744073709551616)) (congrArg (Value.int .u64) (IntKind.wrap_u64 _)) ?_
  refine t 55 (pq g2 6) ?_
  refine ts (U.bk 4 rfl) 6 (.int .u64 ((pe + 1) % 18446744073709551616)) [.int .u64 ((pe + 1) % 18446744073709551616)] [.int .u64 rt,.int .u64 tk,.slice i e j,.bool jl,.int .u64 un,.bool bo,.int .u64 ((pe + 1) % 18446744073709551616),.slice f k d,.slice l o m,.slice c b a] ?_
  intro v37 Y C;replace U:=U.put 4 rfl C Y (by decide);clear Y C;refine ay (ah (ax (aA (t 56 (.agg #[.slice none 0 0]) ?_))));refine t 57 (pq g2 7) ?_
  refine ts (U.bk 4 rfl) 7 (.agg #[.slice none 0 0]) [.slice none 0 0] [.int .u64 rt,.int .u64 tk,.slice i e j,.bool jl,.int .u64 un,.bool bo,.int .u64 ((pe + 1) % 18446744073709551616),.slice none 0 0,.slice l o m,.slice c b a] ?_
  intro v38 Y C;replace U:=U.put 4 rfl C Y (by decide);clear Y C;refine ay (ah (ax ?_));replace U:=U.drew;refine cy (fun H=>Blk H g2 [.int .u64 rt,.int .u64 tk,.slice i e j,.bool jl,.int .u64 un,.bool bo,.int .u64 ((pe + 1) % 18446744073709551616),.slice none 0 0,.slice l o m,.slice c b a] 39/\Blk H y [.slice f k d] 32) (fun _=>false) ⟨(U.bk 4 rfl),(U.bk 0 rfl)⟩ ?_
  refine zlr 0 58 [.int .u64 rt,.int .u64 tk,.slice i e j,.bool jl,.int .u64 un,.bool bo,.int .u64 ((pe + 1) % 18446744073709551616),.slice none 0 0,.slice l o m,.slice c b a] (fun _ h=>h.1) 0 ?_
  refine zlr 1 59 [.slice f k d] (fun _ h=>h.2) 0 ?_
  refine zs 2 (U.bk 3 rfl) 0 (.agg #[.int .u64 rt,.int .u64 tk,.slice i e j,.bool jl,.int .u64 un,.bool bo,.int .u64 ((pe + 1) % 18446744073709551616),.slice none 0 0,.slice l o m,.slice c b a]) [.int .u64 rt,.int .u64 tk,.slice i e j,.bool jl,.int .u64 un,.bool bo,.int .u64 ((pe + 1) % 18446744073709551616),.slice none 0 0,.slice l o m,.slice c b a] [.int .u64 rt,.int .u64 tk,.slice i e j,.bool jl,.int .u64 un,.bool bo,.int .u64 ((pe + 1) % 18446744073709551616),.slice none 0 0,.slice l o m,.slice c b a] ?_
  intro v39 Y C;replace U:=U.put 3 rfl C Y (by decide);clear Y C;refine⟨⟨(U.bk 4 rfl),(U.bk 0 rfl)⟩,?_⟩;refine zs 3 (U.bk 2 rfl) 0 (.agg #[.slice f k d]) [.slice f k d] [.slice f k d] ?_
  intro v40 Y C;replace U:=U.put 2 rfl C Y (by decide);clear Y C;refine⟨⟨(U.bk 4 rfl),(U.bk 0 rfl)⟩,?_⟩;refine bC (ah (aV (aX (.tuple #[.agg #[.int .u64 rt,.int .u64 tk,.slice i e j,.bool jl,.int .u64 un,.bool bo,.int .u64 ((pe + 1) % 18446744073709551616),.slice none 0 0,.slice l o m,.slice c b a],.agg #[.slice f k d]]) (rscc 6 7 (T:=39) (T2:=32) (by kernel_rfl) (by kernel_rfl) (by kernel_rfl) (lr (U.bk 3 rfl) 0) (lr (U.bk 2 rfl) 0)) ?_)));exact⟨_,_,_,_,_,_,_,_,_,_,_,_,_,_,_,_,_,_,_,rfl,U.ta.sx,by omega,by omega,U.ta.km,U.ta.cc,(U.nq 7 rfl),by omega,X,(U.nq 6 rfl).eqv (if_pos x).symm,by omega,fv8,(U.nq 0 rfl).eqv (if_pos x).symm,by omega,V,(U.nq 4 rfl),by omega,J⟩
 ·refine tq 43 (.bool ((tk:Int) == 0)) (.bool false) (congrArg Value.bool (beq_eq_false_iff_ne.2 x)) ?_
  refine ay (ah (dV ?_));refine bW (ah (ax (aA (t 52 (pq g2 6) ?_))));refine tl 53 (.int .u64 pe) (U.bk 4 rfl) 6 ?_
  refine tq 54 (.int .u64 (IntKind.u64.wrap (pe + 1))) (.int .u64 ((pe + 1) % 18446744073709551616)) (congrArg (Value.int .u64) (IntKind.wrap_u64 _)) ?_
  refine t 55 (pq g2 6) ?_
  refine ts (U.bk 4 rfl) 6 (.int .u64 ((pe + 1) % 18446744073709551616)) [.int .u64 ((pe + 1) % 18446744073709551616)] [.int .u64 rt,.int .u64 tk,.slice i e j,.bool jl,.int .u64 un,.bool bo,.int .u64 ((pe + 1) % 18446744073709551616),.slice f k d,.slice r p q,.slice c b a] ?_
  intro v41 Y C;replace U:=U.put 4 rfl C Y (by decide);clear Y C;refine ay (ah (aY [(5,pg g2),(6,pg g4),(7,pg g6),(11,pg y)] (by kernel_rfl) ?_));refine ax (aA (t 56 (.agg #[.slice none 0 0]) ?_));refine t 57 (pq g2 7) ?_
  refine ts (U.bk 4 rfl) 7 (.agg #[.slice none 0 0]) [.slice none 0 0] [.int .u64 rt,.int .u64 tk,.slice i e j,.bool jl,.int .u64 un,.bool bo,.int .u64 ((pe + 1) % 18446744073709551616),.slice none 0 0,.slice r p q,.slice c b a] ?_
  intro v42 Y C;replace U:=U.put 4 rfl C Y (by decide);clear Y C;refine ay (ah (ax ?_));replace U:=U.drew;refine cy (fun H=>Blk H g2 [.int .u64 rt,.int .u64 tk,.slice i e j,.bool jl,.int .u64 un,.bool bo,.int .u64 ((pe + 1) % 18446744073709551616),.slice none 0 0,.slice r p q,.slice c b a] 39/\Blk H y [.slice none 0 0] 32) (fun _=>false) ⟨(U.bk 4 rfl),(U.bk 0 rfl)⟩ ?_
  refine zlr 0 58 [.int .u64 rt,.int .u64 tk,.slice i e j,.bool jl,.int .u64 un,.bool bo,.int .u64 ((pe + 1) % 18446744073709551616),.slice none 0 0,.slice r p q,.slice c b a] (fun _ h=>h.1) 0 ?_
  refine zlr 1 59 [.slice none 0 0] (fun _ h=>h.2) 0 ?_
  refine zs 2 (U.bk 3 rfl) 0 (.agg #[.int .u64 rt,.int .u64 tk,.slice i e j,.bool jl,.int .u64 un,.bool bo,.int .u64 ((pe + 1) % 18446744073709551616),.slice none 0 0,.slice r p q,.slice c b a]) [.int .u64 rt,.int .u64 tk,.slice i e j,.bool jl,.int .u64 un,.bool bo,.int .u64 ((pe + 1) % 18446744073709551616),.slice none 0 0,.slice r p q,.slice c b a] [.int .u64 rt,.int .u64 tk,.slice i e j,.bool jl,.int .u64 un,.bool bo,.int .u64 ((pe + 1) % 18446744073709551616),.slice none 0 0,.slice r p q,.slice c b a] ?_
  intro v43 Y C;replace U:=U.put 3 rfl C Y (by decide);clear Y C;refine⟨⟨(U.bk 4 rfl),(U.bk 0 rfl)⟩,?_⟩;refine zs 3 (U.bk 2 rfl) 0 (.agg #[.slice none 0 0]) [.slice none 0 0] [.slice none 0 0] ?_
  intro v44 Y C;replace U:=U.put 2 rfl C Y (by decide);clear Y C;refine⟨⟨(U.bk 4 rfl),(U.bk 0 rfl)⟩,?_⟩;refine bC (ah (aV (aX (.tuple #[.agg #[.int .u64 rt,.int .u64 tk,.slice i e j,.bool jl,.int .u64 un,.bool bo,.int .u64 ((pe + 1) % 18446744073709551616),.slice none 0 0,.slice r p q,.slice c b a],.agg #[.slice none 0 0]]) (rscc 6 7 (T:=39) (T2:=32) (by kernel_rfl) (by kernel_rfl) (by kernel_rfl) (lr (U.bk 3 rfl) 0) (lr (U.bk 2 rfl) 0)) ?_)));exact⟨_,_,_,_,none,0,0,0,_,_,_,_,_,_,_,_,_,_,_,rfl,U.ta.sx,by omega,by omega,U.ta.km,U.ta.cc,(U.nq 6 rfl),by omega,X,(dm _ _).eqv (if_neg x).symm,by omega,.inl rfl,(U.nq 4 rfl).eqv (if_neg x).symm,by omega,fv9,(U.nq 3 rfl),by omega,J⟩
end
end Fo
end
end Go.Proofs.YthfepflplbahkaaGreatDoor
