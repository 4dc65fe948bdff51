import Derived.Test.YtjejmkcjflhoiaaGreatDoorJax
import Derived.Test.YtjejmkcjflhoiaaGreatDoorJaz
set_option maxRecDepth 100000
set_option maxHeartbeats 8000000
namespace Go.Proofs.YtjejmkcjflhoiaaGreatDoor
section
namespace Fo
open Go.RowKit Go.Lib Pg Lim Gl Kv Bk Pw
attribute [local go_sem] Oper.semAt_some
set_option linter.unusedVariables false
set_option linter.unusedSimpArgs false
section
variable {g:List Int}{w:World}{x:Int}{s:Nat}{a:Option Addr}{K:Nat->Prop}
theorem zy(h:fW g)(h0:g≠[]):nth g (g.length - 1)<=eG g:=by
 induction g with
 | nil=>exact absurd rfl h0
 | cons x l ih =>
  have hx:=h x List.mem_cons_self;by_cases e:l=[]
  ·subst e;simp[eG,nth]
  ·have:=ih (fun y hy=>h y (List.mem_cons_of_mem _ hy)) e
   have b:0 < l.length:=List.length_pos_iff.2 e;rw[show (x :: l).length - 1=(l.length - 1)+1 by simp;omega,dS,eG];have a:=(h _ (List.mem_cons_of_mem _ (mw (l:=l) (i:=l.length - 1) (by omega)))).1;omega
theorem gM(hx:x < 100):lA w x:=fun g b d a e c _=>by
 have f:=zy b a;obtain⟨n,hn⟩:∃ n:Nat,nth g (g.length - 1)=(n:Int):=⟨(nth g (g.length - 1)).toNat,by omega⟩
 rw[hn];exact xp n (by omega) (by omega) c
theorem nu{S:ByteArray}(h:Bm S x)(l wl:List UInt8)(hd:(wl.map (fun c=>(c.toNat:Int))).all (fun c=>decide (48<=c/\c<=57))=true)(hv:dvI (wl.map (fun c=>(c.toNat:Int)))=x / U36)(h0:0 < wl.length)(b:wl.length=1\/nth (wl.map (fun c=>(c.toNat:Int))) 0≠48)(a:l=wl ++ xm (x % U36)):S=⟨l.toArray⟩:=by
 obtain⟨d,hw,hS⟩:=h.ex;have e:=De hw wl hd hv h0 b;rw[a]
 cases S with
 | mk arr =>
  simp at hS;rw[e] at hS;simp[<- hS]
theorem Eg{t:Nat}(h:s<=t):(18446744073709551616:Int) ^ s<=18446744073709551616 ^ t:=by
 have:=Nat.pow_le_pow_right (show 0 < 18446744073709551616 by decide) h
 have a:((18446744073709551616 ^ s:Nat):Int)<=((18446744073709551616 ^ t:Nat):Int):=Int.ofNat_le.2 this;rw[Int.natCast_pow,Int.natCast_pow] at a;exact a
theorem nO_len{k d:Nat}(h:et w a k d x)(hs:x < 18446744073709551616 ^ s):k<=s:=by
 obtain⟨b,o,l,i,f,e,g⟩:=h.ex;obtain⟨g1,g2,g3⟩:=e;by_cases h0:k=0
 ·omega
 ·have:=eN g1 (by omega);rw[g3] at this;rcases Nat.lt_or_ge s k with c | c
  ·have j:(18446744073709551616:Int) ^ s<=18446744073709551616 ^ (aK l - 1):=Eg (by omega);omega
  ·exact c
theorem belowO{V V':World}(h:Below w.heap.size w V)(hC:Chg K V V')(a:∀ b,K b->w.heap.size<=b):Below w.heap.size w V' :=
 ((Chg.of (F:=fun _=>False) h).trans hC (fun b c hb=>by have:=a b hb;omega)).nothing
theorem o9(a:Nat)(hb:a=w.heap.size):Calls Tryz.prog 16 #[] w fun e w'=>∃ g K,e=.returned (pg g)/\Sx a w' K g [] [] 0 0/\(∀ b,K b->a<=b)/\Below w.heap.size w w':=by
 subst hb;refine snew.mono ?_
 rintro e w' ⟨g,K,rfl,S,c,B⟩;exact⟨g,K,rfl,⟨S.mono (fun _ _ h=>h.elim),B.size,c⟩,c,B⟩
end
section
variable {B:Nat} {w:World} {K:Nat->Prop} {g:Nat} {E E':aI} {W:List aI} {n N P:Nat}
theorem dumpF {m:Nat} (h:Sx B w K g E W n N) (d:N<=100000000) (hm:E.length=m):Calls Tryz.prog 12 #[pg g] w fun e w'=>∃ a c,e=.returned (.slice a m c)/\Below w.heap.size w w':=by
 refine(sdump h.sa d).mono ?_
 rintro e w' ⟨v,es,rfl,P,he,B⟩;obtain⟨a,c,rfl⟩:=P.shape
 have b:es.length=m:=by rw[<- hm,<- he,List.length_map]
 rw[b];exact⟨a,c,rfl,B⟩
end
structure Al (B:Nat) (w:World) (K:Nat->Prop) (g:Nat) (E:aI) (W:List aI) (n N:Nat):Prop where
 sx:Sx B w K g E W n N
section
variable {B:Nat} {w w':World} {K K':Nat->Prop} {g x:Nat} {E E':aI} {W:List aI} {n N n' N':Nat}
theorem Al.cell {cs:List Value} {t:TypeId} (h:Al B w K g E W n N) (hX:Blk w x cs t) (C:Chg (·=x) w w') (b:¬ K x) (a:t≠5):Al B w' K g E W n N:=by
 have r:=Rg.cell (rg_of (X:=fun _=>True) h.sx trivial) hX C (.inr trivial) b a;exact⟨r.sx⟩
end
section
variable {w:World}{K:Nat->Prop}{n c B g N n0 P n1 n2 n3:Nat}{ao:Option Addr}{x tk pe id x0 rt un x1 x2 x3:Int}{E E':aI}{W:List aI}{args:Array Value}{jl bo:Bool}{r:Value}
theorem nk_out{V:World}{z:Nat}(h:Nk w (fun b=>w.heap.size<=b) z ao n c x)(f:Below w.heap.size w V)(e:∀ b,K b->w.heap.size<=b):Nk V K z ao n c x:=by
 have q:=h.keep f;exact⟨q.lt,q.out.imp_right fun d a=>d (e _ a),q.to⟩
theorem nk_nat(h:aX w ao n c x):∃ z,Nk w (fun b=>w.heap.size<=b) z ao n c x:=by
 obtain⟨b,o,l,f,e,j,d,g⟩:=h
 have a:n=0\/b < w.heap.size:=by
  rcases Nat.eq_zero_or_pos n with q | q
  ·exact .inl q
  ·exact .inr (aL (d.cell 0 (by omega)))
 refine⟨b,a,a.imp_right fun q=>by show ¬ (w.heap.size<=b);omega,fun k hw=>⟨b,o,l,f,e,j,⟨d.loc,fun i hi=>?_⟩,g⟩⟩;rw[World.cell?_of_block (w:=w) (hw (by omega))];exact d.cell i hi
structure HoV(B:Nat)(w:World)(K:Nat->Prop)(g:Nat)(E':aI)(W:List aI)(n N:Nat)(p x4 xs:Int)(n0 n4:Nat)(e:Ending)(w':World):Prop where
 ex:∃ b0 k0 d0 y0 b1 k1 d1 y1 K' n' N',e=.returned (.agg #[.slice b0 k0 d0,.int .u64 p,.slice b1 k1 d1])/\Sx B w' K' g E' W n' N'/\n'<=n+10/\N'<=N+10/\(∀ b,K' b->K b\/w.heap.size<=b)/\Chg K w w'/\Nq w' K' y0 b0 k0 d0 (x4)/\k0<=n4+1/\(k0=0\/w.heap.size<=y0)/\Nq w' K' y1 b1 k1 d1 (xs)/\k1<=n0+n4+40/\(k1=0\/w.heap.size<=y1)
theorem HoE.cast{x4 p xs:Int}{n4:Nat}(h:Calls Tryz.prog P args w (HoE B w K g E W n N tk pe id x0 x4 n0 n4))(a:(pe - 1) % 18446744073709551616=p)(b:ec E id p=E')(hx:x4 * (tk * U36) / x0=xs):Calls Tryz.prog P args w (HoV B w K g E' W n N p x4 xs n0 n4):=by
 subst a b hx;exact h.mono fun e c h=>⟨h.ex⟩
structure ClV(B:Nat)(w:World)(K:Nat->Prop)(g:Nat)(E':aI)(W:List aI)(n N:Nat)(rt tk:Int)(jl:Bool)(un:Int)(bo:Bool)(pq x0 x1 x2 x3:Int)(n0 n1 n2 n3:Nat)(e:Ending)(w':World):Prop where
 ex:∃ b0 k0 d0 y0 b1 k1 d1 y1 b2 k2 d2 y2 b3 k3 d3 y3 K' n' N',e=.returned (.tuple #[.agg #[.int .u64 rt,.int .u64 tk,.slice b0 k0 d0,.bool jl,.int .u64 un,.bool bo,.int .u64 pq,.slice none 0 0,.slice b2 k2 d2,.slice b3 k3 d3],.agg #[.slice b1 k1 d1]])/\Sx B w' K' g E' W n' N'/\n'<=n+20/\N'<=N+20/\(∀ b,K' b->K b\/w.heap.size<=b)/\Chg K w w'/\Nq w' K' y0 b0 k0 d0 (x0)/\k0<=n0+1/\(k0=0\/w.heap.size<=y0)/\Nq w' K' y1 b1 k1 d1 ((if tk=0 then x1 else 0))/\k1<=n1+1/\(k1=0\/w.heap.size<=y1)/\Nq w' K' y2 b2 k2 d2 ((if tk=0 then iC x2 x1 else x2))/\k2<=n2+1/\(k2=0\/w.heap.size<=y2)/\Nq w' K' y3 b3 k3 d3 (x3)/\k3<=n3+1/\(k3=0\/w.heap.size<=y3)
theorem ClE.cast{pq:Int}(h:Calls Tryz.prog P args w (ClE B w K g E W n N rt tk jl un bo pe id x0 x1 x2 x3 n0 n1 n2 n3))(a:(pe+1) % 18446744073709551616=pq)(b:ea E id pe tk x1=E'):Calls Tryz.prog P args w (ClV B w K g E' W n N rt tk jl un bo pq x0 x1 x2 x3 n0 n1 n2 n3):=by
 subst a b;exact h.mono fun e c h=>⟨h.ex⟩
structure CuV(B:Nat)(w:World)(K:Nat->Prop)(g:Nat)(E':aI)(W:List aI)(n N:Nat)(rt tk:Int)(jl:Bool)(un:Int)(bo:Bool)(pe af x0 x1 x2 x3:Int)(n0 n1 n2 n3:Nat)(e:Ending)(w':World):Prop where
 ex:∃ b0 k0 d0 y0 b1 k1 d1 y1 b2 k2 d2 y2 b3 k3 d3 y3 K' n' N',e=.returned (.agg #[.int .u64 rt,.int .u64 af,.slice b0 k0 d0,.bool jl,.int .u64 un,.bool bo,.int .u64 pe,.slice b1 k1 d1,.slice b2 k2 d2,.slice b3 k3 d3])/\Sx B w' K' g E' W n' N'/\n'<=n+10/\N'<=N+10/\(∀ b,K' b->K b\/w.heap.size<=b)/\Chg K w w'/\Nq w' K' y0 b0 k0 d0 (x0)/\k0<=n0+1/\(k0=0\/w.heap.size<=y0)/\Nq w' K' y1 b1 k1 d1 (x1)/\k1<=n1+1/\(k1=0\/w.heap.size<=y1)/\Nq w' K' y2 b2 k2 d2 (x2)/\k2<=n2+1/\(k2=0\/w.heap.size<=y2)/\Nq w' K' y3 b3 k3 d3 (x3)/\k3<=n3+1/\(k3=0\/w.heap.size<=y3)
theorem CuE.cast{af p:Int}(h:Calls Tryz.prog P args w (CuE B w K g E W n N rt tk jl un bo pe id af x0 x1 x2 x3 n0 n1 n2 n3))(a:(pe - 1) % 18446744073709551616=p)(b:sk E id p tk af=E'):Calls Tryz.prog P args w (CuV B w K g E' W n N rt tk jl un bo pe af x0 x1 x2 x3 n0 n1 n2 n3):=by
 subst a b;exact h.mono fun e c h=>⟨h.ex⟩
theorem uw.cast{c':Nat}{V V':Int}(h:Calls Tryz.prog P args w (uw B w K g E W n N c V))(hc:c=c')(hV:V=V'):Calls Tryz.prog P args w (uw B w K g E W n N c' V'):=by
 subst hc hV;exact h
theorem SxF.castE(h:Calls Tryz.prog P args w (SxF B w K g E W n N r))(hE:E=E'):Calls Tryz.prog P args w (SxF B w K g E' W n N r):=by
 subst hE;exact h
theorem vS{a b:Nat}(h:Sx B w K g E W n N)(hid:0<=id/\id < 18446744073709551616)(c:N<=30000000)(hn:n + 3 * N + 10<=2000000000000000000)(h7:iP E 7 id=a)(h8:iP E 8 id=b):Calls Tryz.prog 9 #[pg g,.int .u64 id] w fun e w'=>∃ K' n',e=.returned (.tuple #[.int .i64 (a:Int),.int .i64 (b:Int)])/\Sx B w' K' g E W n' N/\n'<=n + 2 + 2 * N/\(∀ b,K' b->K b\/w.heap.size<=b)/\Chg K w w':=by
 subst h7 h8;exact DB h hid c hn
theorem gone_v(h:Sx B w K g E W n N)(hid:0<=id/\id < 18446744073709551616)(c:N<=10000000)(hn:n + 30 * N + 10<=2000000000000000000)(a:oO (oO E 7 id) 8 id=E'):Calls Tryz.prog 11 #[pg g,.int .u64 id] w fun e w'=>∃ K' n' N',e=.returned (.tuple #[])/\Sx B w' K' g E' W n' N'/\n'<=n + 20 * N + 10/\N'<=9 * N/\(∀ b,K' b->K b\/w.heap.size<=b)/\Chg K w w':=by
 subst a;exact gone_x h hid c hn
end
end Fo
end
section
namespace Fo
open Go.RowKit Go.Lib Pg Lim Gl Kv Bk Pw
set_option linter.unusedVariables false
structure Un (w0:World) (B g0:Nat) (w:World) (K:Nat->Prop) (E:aI) (n N:Nat) (bs:List Bx) (qs:List Nx):Prop where
 bb:Below w0.heap.size w0 w
 lo:w0.heap.size<=B
 sx:Sx B w K g0 E [] n N
 b:∀ p∈bs,Blk w p.1 p.2.1 p.2.2/\¬ K p.1/\w0.heap.size<=p.1
 q:∀ r∈qs,Nq w K r.1 r.2.1 r.2.2.1 r.2.2.2.1 r.2.2.2.2
 e:∀ p∈bs,∀ r∈qs,r.2.2.1=0\/r.1≠p.1
 d:bs.Pairwise (fun a b=>a.1≠b.1)
section
variable {w0 w w':World} {B g0 n N n' N' g i:Nat} {K K':Nat->Prop} {E E':aI} {bs:List Bx} {qs:List Nx} {cs cs':List Value} {t:TypeId}
section
variable {z k d:Nat}{a:Option Addr}{x:Int}
theorem Un.lt(h:Un w0 B g0 w K E n N bs qs):∀ p∈bs,p.1 < w.heap.size:=fun p hp=>(h.b p hp).1.lt
theorem Un.out(h:Un w0 B g0 w K E n N bs qs):∀ b,K b->w0.heap.size<=b:=fun b hb=>Nat.le_trans h.lo (h.sx.kb b hb)
theorem pF(bb:Below w0.heap.size w0 w)(lo:w0.heap.size<=B)(sx:Sx B w K g0 E [] n N):Un w0 B g0 w K E n N [] []:=⟨bb,lo,sx,fun _ h=>(List.not_mem_nil h).elim,fun _ h=>(List.not_mem_nil h).elim,fun _ h=>(List.not_mem_nil h).elim,List.Pairwise.nil⟩
theorem Un.keep(h:Un w0 B g0 w K E n N bs qs)(b:Below w.heap.size w w'):Un w0 B g0 w' K E n N bs qs:=⟨aB h.bb b,h.lo,h.sx.keep b,fun p a=>⟨(h.b p a).1.keep b,(h.b p a).2⟩,fun r c=>(h.q r c).keep b,h.e,h.d⟩
theorem Un.drew(h:Un w0 B g0 w K E n N bs qs):Un w0 B g0 w.drew K E n N bs qs:=h.keep (Below.refl _ _).drew
theorem Un.op(h:Un w0 B g0 w K E n N bs qs)(S:Sx B w' K' g0 E' [] n' N')(c:∀ b,K' b->K b\/w.heap.size<=b)(hC:Chg K w w'):Un w0 B g0 w' K' E' n' N' bs qs:=⟨belowO h.bb hC h.out,h.lo,S,fun p a=>⟨(h.b p a).1.chg hC (h.b p a).2.1,wA (h.b p a).1 (h.b p a).2.1 c,(h.b p a).2.2⟩,fun r f=>(h.q r f).op c hC,h.e,h.d⟩
theorem Un.ask(h:Un w0 B g0 w K E n N bs qs)(S:Sx B w' K g0 E' [] n' N')(C:Chg (·=g0) w w'):Un w0 B g0 w' K E' n' N' bs qs:=h.op S (fun _ h=>.inl h) (C.mono (fun b _ (e:b=g0)=>e▸h.sx.sa.top))
theorem Un.add{s:Nat}(h:Un w0 B g0 w K E n N bs qs)(L:∀ p∈bs,p.1 < s)(Q:Nq w K z a k d x)(f:k=0\/s<=z):Un w0 B g0 w K E n N bs ((z,a,k,d,x) :: qs):=⟨h.bb,h.lo,h.sx,h.b,List.forall_mem_cons.2 ⟨Q,h.q⟩,fun p c=>List.forall_mem_cons.2 ⟨f.imp_right (fun q e=>by have:=L p c;have g:z=p.1:=e;omega),h.e p c⟩,h.d⟩
theorem Un.num(h:Un w0 B g0 w K E n N bs qs)(M:Nf w' z a k d x)(hz:k=0\/w.heap.size<=z)(b:Below w.heap.size w w'):Un w0 B g0 w' K E n N bs ((z,a,k,d,x) :: qs):=(h.keep b).add h.lt (eP h.sx M hz) hz
theorem Un.new(h:Un w0 B g0 w K E n N bs qs)(X:Blk w' g cs t)(a:w.heap.size<=g)(b:Below w.heap.size w w'):Un w0 B g0 w' K E n N ((g,cs,t) :: bs) qs:=by
 have u:=h.keep b;refine⟨u.bb,u.lo,u.sx,List.forall_mem_cons.2 ⟨⟨X,fun q=>by have:=h.sx.sa.lt q;omega,Nat.le_trans h.bb.size a⟩,u.b⟩,u.q,List.forall_mem_cons.2 ⟨fun r f=>ne1 (h.q r f).lt a,u.e⟩,List.pairwise_cons.2 ⟨fun p c e=>by have:=h.lt p c;have i:g=p.1:=e;omega,u.d⟩⟩
theorem Un.bk(h:Un w0 B g0 w K E n N bs qs)(i:Nat)(hi:bs[i]?=some (g,cs,t)):Blk w g cs t:=(h.b _ (List.mem_of_getElem? hi)).1
theorem Un.nq(h:Un w0 B g0 w K E n N bs qs)(i:Nat)(hi:qs[i]?=some (z,a,k,d,x)):Nq w K z a k d x:=h.q _ (List.mem_of_getElem? hi)
theorem Un.put(h:Un w0 B g0 w K E n N bs qs)(i:Nat)(hi:bs[i]?=some (g,cs,t))(C:Chg (·=g) w w')(Y:Blk w' g cs' t)(f:t≠5:=by decide):Un w0 B g0 w' K E n N (bs.set i (g,cs',t)) qs:=by
 have hm:=List.mem_of_getElem? hi;obtain⟨X,nk,y⟩:=h.b _ hm;obtain⟨r1,j⟩:=qQ (q:=(g,cs',t)) h.d hi rfl;have A:=Al.cell ⟨h.sx⟩ X C nk f;refine⟨bC h.bb C y,h.lo,A.sx,fun p a=>?_,fun r c=>(h.q r c).cell C (h.e _ hm r c),fun p a=>?_,r1⟩
 ·by_cases e:p=(g,cs',t)
  ·subst e;exact⟨Y,nk,y⟩
  ·rcases fh a with q | q
   ·exact absurd q e
   ·exact⟨(h.b p q).1.chg C (j p a e),(h.b p q).2⟩
 ·rcases fh a with q | q
  ·rw[q]
   show ∀ r∈qs,r.2.2.1=0\/r.1≠g
   exact h.e _ hm
  ·exact h.e p q
theorem Un.val{y:Int}(h:Un w0 B g0 w K E n N bs qs)(i:Nat)(hi:qs[i]?=some (z,a,k,d,x))(e:x=y):Un w0 B g0 w K E n N bs (qs.set i (z,a,k,d,y)):=by
 subst e
 rw[show qs.set i (z,a,k,d,x)=qs from List.ext_getElem? fun j=>by
  rw[List.getElem?_set];split
  ·rename_i e;subst e;split
   ·exact hi.symm
   ·rename_i b;rw[List.getElem?_eq_none (by omega)]
  ·rfl]
 exact h
theorem Un.sel(h:Un w0 B g0 w K E n N bs qs)(is v:List Nat)(hn:is.Nodup:=by decide):Un w0 B g0 w K E n N (is.filterMap (bs[·]?)) (v.filterMap (qs[·]?)):=by
 have l:∀ p∈is.filterMap (bs[·]?),p∈bs:=fun p a=>by
  obtain⟨i,_,e⟩:=List.mem_filterMap.1 a;exact List.mem_of_getElem? e
 have f:∀ p∈v.filterMap (qs[·]?),p∈qs:=fun p a=>by
  obtain⟨i,_,e⟩:=List.mem_filterMap.1 a;exact List.mem_of_getElem? e
 refine⟨h.bb,h.lo,h.sx,fun p a=>h.b p (l p a),fun r m=>h.q r (f r m),fun p a r m=>h.e p (l p a) r (f r m),?_⟩;have hd:=h.d;clear l f h
 induction is with
 | nil=>exact List.Pairwise.nil
 | cons i is ih =>
  have k:=List.nodup_cons.1 hn;rw[List.filterMap_cons];split
  ·exact ih k.2
  ·rename_i p e;refine List.pairwise_cons.2 ⟨fun q x e2=>?_,ih k.2⟩;obtain⟨j,y,e3⟩:=List.mem_filterMap.1 x
   have g:i≠j:=fun c=>k.1 (c▸y)
   obtain⟨li,s⟩:=List.getElem?_eq_some_iff.1 e;obtain⟨o,t⟩:=List.getElem?_eq_some_iff.1 e3;have u:=List.pairwise_iff_getElem.1 hd;rcases Nat.lt_or_gt_of_ne g with c | c
   ·exact u i j li o c (by rw[s,t];exact e2)
   ·exact u j i o li c (by rw[s,t];exact e2.symm)
theorem Un.nil(h:Un w0 B g0 w K E n N bs qs):Un w0 B g0 w K E n N bs ((0,none,0,0,0) :: qs):=⟨h.bb,h.lo,h.sx,h.b,List.forall_mem_cons.2 ⟨dA _ _,h.q⟩,fun p a=>List.forall_mem_cons.2 ⟨.inl rfl,h.e p a⟩,h.d⟩
theorem Un.raw(h:Un w0 B g0 w K E n N bs qs)(r:Nk w0 (fun b=>w0.heap.size<=b) z a k d x):Nk w K z a k d x:=nk_out r h.bb h.out
end
end
end Fo
end
section
namespace Fo
open Go.RowKit Go.Lib Pg Lim Gl Kv Bk Pw
attribute [local go_sem] Oper.semAt_some
set_option linter.unusedVariables false
set_option linter.unusedSimpArgs false
def kE1:aI:=ec [] 16 0
def kE2:aI:=ec kE1 16 0
def kE3:aI:=ea kE2 16 1 4 (10 * U36)
def kE4:aI:=ea kE3 16 2 4 0
def kE5:aI:=sk kE4 16 2 4 2
def kE6:aI:=ea kE5 16 3 2 (10 * U36)
def kE7:aI:=letE kE6 16 0
def kE8:aI:=oO (oO kE7 7 16) 8 16
theorem kq2:ec kE1 16 0=kE2:=rfl
theorem kq3:ea kE2 16 1 4 (10 * U36)=kE3:=rfl
theorem kq4:ea kE3 16 2 4 0=kE4:=rfl
theorem kq5:sk kE4 16 2 4 2=kE5:=rfl
theorem kq6:ea kE5 16 3 2 (10 * U36)=kE6:=rfl
theorem kq7:letE kE6 16 0=kE7:=rfl
theorem kq8:oO (oO kE7 7 16) 8 16=kE8:=rfl
structure J5 where
 K:Nat->Prop
 n:Nat
 N:Nat
 gd:Nat
 a0:Option Addr
 k0:Nat
 c0:Nat
 z0:Nat
 a1:Option Addr
 k1:Nat
 c1:Nat
 z1:Nat
theorem Ds {w:World}:Calls Tryz.prog 5 #[] w fun e w'=>e=.returned (.bool true)/\Below w.heap.size w w':=by
 have BB:=Below.refl w.heap.size w;refine aO (n:=137) Tryz.func5 rfl (by kernel_rfl) (by kernel_rfl) ?_
 refine ay (aC (t 0 (.bool false) (aA (ah (ay (aC ?_))))));obtain⟨Bz,hBz⟩:∃ Bz,Bz=(w).heap.size:=⟨_,rfl⟩
 have hwB:w.heap.size<=Bz:=by rw[hBz];exact BB.size
 refine tc 13 16 #[] (o9 Bz hBz) ?_
 rintro _ v1 ⟨g0,K0,rfl,S0,hK0,B0⟩;refine⟨_,rfl,?_⟩;replace BB:=aB BB B0;clear B0;have U:=pF BB (B:=Bz) hwB S0;clear BB S0;refine t 1 (pg g0) (aA (ah (ay (ay (aC (t 14 (pg g0) (t 15 (.bool false) (aA (ah (cE (bF (ah (ay (aC (t 16 (pg g0) (tc 17 18 #[.int .u64 4] (eOf (y:=4) ⟨by decide,by decide⟩) ?_))))))))))))))));rintro _ v3 ⟨aq2,nq2,cq2,zq2,rfl,M,h,mq2,B⟩;refine⟨_,rfl,?_⟩;replace U:=U.num M h B;clear M h B;refine t 18 (.agg #[.int .u64 0,.int .u64 4,.slice aq2 nq2 cq2,.bool false,.int .u64 0,.bool false,.int .u64 0,.slice none 0 0,.slice none 0 0,.slice none 0 0]) (tc 19 17 #[pg g0,.int .u64 16,.agg #[.int .u64 0,.int .u64 4,.slice aq2 nq2 cq2,.bool false,.int .u64 0,.bool false,.int .u64 0,.slice none 0 0,.slice none 0 0,.slice none 0 0]] (pL U.sx (id:=16) ⟨by decide,by decide⟩ (U.nq 0 rfl).nk (by omega) (dA _ _).nk (by omega) (dA _ _).nk (by omega) (dA _ _).nk (by omega) (by omega) (by omega)) ?_);rintro _ v10 ⟨F,I,A,zq4,r,H,x,zq5,G,u,v,zq6,K7,n8,N9,rfl,S,qn8,qN9,c,hC,Q0,mq4,h0,Q1,mq5,h1,Q2,mq6,h2⟩;refine⟨_,rfl,?_⟩;have L:=U.lt;replace U:=(((U.op S c hC).add L Q0 h0).add L Q1 h1).add L Q2 h2;clear L S c hC Q0 h0 Q1 h1 Q2 h2;refine ta 2 [.int .u64 0,.int .u64 0,.slice none 0 0,.bool false,.int .u64 0,.bool false,.int .u64 0,.slice none 0 0,.slice none 0 0,.slice none 0 0] 39 (pg) ?_
 intro v11 g12 Xg12 hg12 B;replace U:=U.new Xg12 hg12 B;clear Xg12 hg12 B;refine ts (U.bk 0 rfl) 0 (.agg #[.int .u64 0,.int .u64 4,.slice F I A,.bool false,.int .u64 0,.bool false,.int .u64 1,.slice none 0 0,.slice r H x,.slice G u v]) [.int .u64 0,.int .u64 4,.slice F I A,.bool false,.int .u64 0,.bool false,.int .u64 1,.slice none 0 0,.slice r H x,.slice G u v] [.int .u64 0,.int .u64 4,.slice F I A,.bool false,.int .u64 0,.bool false,.int .u64 1,.slice none 0 0,.slice r H x,.slice G u v] ?_
 intro v13 Y C;replace U:=U.put 0 rfl C Y;refine aA (ah ?_);refine eL (fun(s:J5)=>[(1,pg g0),(2,pg g12),(3,pg s.gd)]) (fun s w'=>Un w Bz g0 w' s.K kE2 s.n s.N ((s.gd,[.slice s.a0 s.k0 s.c0,.int .u64 0,.slice s.a1 s.k1 s.c1],53) :: [(g12,[.int .u64 0,.int .u64 4,.slice F I A,.bool false,.int .u64 0,.bool false,.int .u64 1,.slice none 0 0,.slice r H x,.slice G u v],39)]) ((s.z0,s.a0,s.k0,s.c0,1 * U36) :: (s.z1,s.a1,s.k1,s.c1,U36) :: [(zq6,G,u,v,0),(zq5,r,H,x,0),(zq4,F,I,A,4 * U36),(zq2,aq2,nq2,cq2,4 * U36)])/\s.n<=60/\s.N<=60/\s.k0<=100/\s.k1<=200) ?_ ?_
 ·replace U:=U.drew;refine bE (fun w'=>Blk w' g12 [.int .u64 0,.int .u64 4,.slice F I A,.bool false,.int .u64 0,.bool false,.int .u64 1,.slice none 0 0,.slice r H x,.slice G u v] 39) (fun _=>false) (U.bk 0 rfl) ?_
  refine z 0 20 (pg g0) (zlr 1 21 [.int .u64 0,.int .u64 4,.slice F I A,.bool false,.int .u64 0,.bool false,.int .u64 1,.slice none 0 0,.slice r H x,.slice G u v] (fun _ h=>h) 0 (bJ [2,5] ?_));refine cy 2 (some 22) 18 #[.int .u64 1] (eOf (y:=1) ⟨by decide,by decide⟩) ?_ ?_
  ·rintro _ v15 ⟨aq14,nq14,cq14,zq14,rfl,M,h,mq14,B⟩;replace U:=U.num M h B;clear M h B;refine⟨_,rfl,(U.bk 0 rfl),?_⟩;refine zr 3 23 (.agg #[.slice aq14 nq14 cq14,.int .u64 0,.slice none 0 0]) (by intro _ _;kernel_rfl) (bJ [4,5] ?_);refine cy 4 (some 24) 19 #[pg g0,.int .u64 16,.agg #[.int .u64 0,.int .u64 4,.slice F I A,.bool false,.int .u64 0,.bool false,.int .u64 1,.slice none 0 0,.slice r H x,.slice G u v],.agg #[.slice aq14 nq14 cq14,.int .u64 0,.slice none 0 0]] (HoE.cast (E':=kE2) (p:=0) (xs:=U36) (jM (E:=kE1) U.sx (id:=16) ⟨by decide,by decide⟩ ⟨by decide,by decide⟩ (U.nq 3 rfl).nk (by omega) (dA _ _).nk (by omega) (U.nq 2 rfl).nk (by omega) (U.nq 1 rfl).nk (by omega) (U.nq 0 rfl).nk (by omega) (dA _ _).nk (by omega) (by omega) (by omega)) (by decide) kq2 (by decide +kernel)) ?_ ?_
   ·rintro _ v21 ⟨aq16,nq16,cq16,zq16,aq17,nq17,cq17,zq17,K18,n19,N20,rfl,S,qn19,qN20,c,hC,Q0,mq16,h0,Q1,mq17,h1⟩;have L:=U.lt;replace U:=((U.op S c hC).add L Q0 h0).add L Q1 h1;clear L S c hC Q0 h0 Q1 h1;refine⟨_,rfl,(U.bk 0 rfl),?_⟩;refine za 5 3 [.slice none 0 0,.int .u64 0,.slice none 0 0] 53 (pg) ?_
    intro v22 g23 Xg23 hg23 B;replace U:=U.new Xg23 hg23 B;clear Xg23 hg23 B;refine⟨(U.bk 1 rfl),?_⟩;refine zs 6 (U.bk 0 rfl) 0 (.agg #[.slice aq16 nq16 cq16,.int .u64 0,.slice aq17 nq17 cq17]) [.slice aq16 nq16 cq16,.int .u64 0,.slice aq17 nq17 cq17] [.slice aq16 nq16 cq16,.int .u64 0,.slice aq17 nq17 cq17] ?_
    intro v24 Y C;replace U:=U.put 0 rfl C Y;refine⟨(U.bk 1 rfl),?_⟩;exact aQ (aZ (⟨_,_,_,g23,aq16,nq16,cq16,zq16,aq17,nq17,cq17,zq17⟩:J5) ⟨U.sel [0,1] [1,0,3,4,5,6],by (try dsimp only);omega,by (try dsimp only);omega,by (try dsimp only);omega,by (try dsimp only);omega⟩ (by kernel_rfl))
   refine zaa 5 3 [.slice none 0 0,.int .u64 0,.slice none 0 0] 53 (pg) ?_ ?_
   ·intro v25 g26 Xg26 hg26 B;replace U:=U.new Xg26 hg26 B;clear Xg26 hg26 B;refine⟨(U.bk 1 rfl),?_⟩;refine zc 4 24 19 #[pg g0,.int .u64 16,.agg #[.int .u64 0,.int .u64 4,.slice F I A,.bool false,.int .u64 0,.bool false,.int .u64 1,.slice none 0 0,.slice r H x,.slice G u v],.agg #[.slice aq14 nq14 cq14,.int .u64 0,.slice none 0 0]] (HoE.cast (E':=kE2) (p:=0) (xs:=U36) (jM (E:=kE1) U.sx (id:=16) ⟨by decide,by decide⟩ ⟨by decide,by decide⟩ (U.nq 3 rfl).nk (by omega) (dA _ _).nk (by omega) (U.nq 2 rfl).nk (by omega) (U.nq 1 rfl).nk (by omega) (U.nq 0 rfl).nk (by omega) (dA _ _).nk (by omega) (by omega) (by omega)) (by decide) kq2 (by decide +kernel)) ?_
    rintro _ v32 ⟨aq27,nq27,cq27,zq27,aq28,nq28,cq28,zq28,K29,n30,N31,rfl,S,qn30,qN31,c,hC,Q0,mq27,h0,Q1,mq28,h1⟩;have L:=U.lt;replace U:=((U.op S c hC).add L Q0 h0).add L Q1 h1;clear L S c hC Q0 h0 Q1 h1;refine⟨_,rfl,(U.bk 1 rfl),?_⟩;refine zs 6 (U.bk 0 rfl) 0 (.agg #[.slice aq27 nq27 cq27,.int .u64 0,.slice aq28 nq28 cq28]) [.slice aq27 nq27 cq27,.int .u64 0,.slice aq28 nq28 cq28] [.slice aq27 nq27 cq27,.int .u64 0,.slice aq28 nq28 cq28] ?_
    intro v33 Y C;replace U:=U.put 0 rfl C Y;refine⟨(U.bk 1 rfl),?_⟩;exact aQ (aZ (⟨_,_,_,g26,aq27,nq27,cq27,zq27,aq28,nq28,cq28,zq28⟩:J5) ⟨U.sel [0,1] [1,0,3,4,5,6],by (try dsimp only);omega,by (try dsimp only);omega,by (try dsimp only);omega,by (try dsimp only);omega⟩ (by kernel_rfl))
   exact cJ
  refine zaa 5 3 [.slice none 0 0,.int .u64 0,.slice none 0 0] 53 (pg) ?_ ?_
  ·intro v34 g35 Xg35 hg35 B;replace U:=U.new Xg35 hg35 B;clear Xg35 hg35 B;refine⟨(U.bk 1 rfl),?_⟩;refine zc 2 22 18 #[.int .u64 1] (eOf (y:=1) ⟨by decide,by decide⟩) ?_
   rintro _ v37 ⟨aq36,nq36,cq36,zq36,rfl,M,h,mq36,B⟩;replace U:=U.num M h B;clear M h B;refine⟨_,rfl,(U.bk 1 rfl),?_⟩;refine zr 3 23 (.agg #[.slice aq36 nq36 cq36,.int .u64 0,.slice none 0 0]) (by intro _ _;kernel_rfl) (zc 4 24 19 #[pg g0,.int .u64 16,.agg #[.int .u64 0,.int .u64 4,.slice F I A,.bool false,.int .u64 0,.bool false,.int .u64 1,.slice none 0 0,.slice r H x,.slice G u v],.agg #[.slice aq36 nq36 cq36,.int .u64 0,.slice none 0 0]] (HoE.cast (E':=kE2) (p:=0) (xs:=U36) (jM (E:=kE1) U.sx (id:=16) ⟨by decide,by decide⟩ ⟨by decide,by decide⟩ (U.nq 3 rfl).nk (by omega) (dA _ _).nk (by omega) (U.nq 2 rfl).nk (by omega) (U.nq 1 rfl).nk (by omega) (U.nq 0 rfl).nk (by omega) (dA _ _).nk (by omega) (by omega) (by omega)) (by decide) kq2 (by decide +kernel)) ?_);rintro _ v43 ⟨aq38,nq38,cq38,zq38,aq39,nq39,cq39,zq39,K40,n41,N42,rfl,S,qn41,qN42,c,hC,Q0,mq38,h0,Q1,mq39,h1⟩;have L:=U.lt;replace U:=((U.op S c hC).add L Q0 h0).add L Q1 h1;clear L S c hC Q0 h0 Q1 h1;refine⟨_,rfl,(U.bk 1 rfl),?_⟩;refine zs 6 (U.bk 0 rfl) 0 (.agg #[.slice aq38 nq38 cq38,.int .u64 0,.slice aq39 nq39 cq39]) [.slice aq38 nq38 cq38,.int .u64 0,.slice aq39 nq39 cq39] [.slice aq38 nq38 cq38,.int .u64 0,.slice aq39 nq39 cq39] ?_
   intro v44 Y C;replace U:=U.put 0 rfl C Y;refine⟨(U.bk 1 rfl),?_⟩;exact aQ (aZ (⟨_,_,_,g35,aq38,nq38,cq38,zq38,aq39,nq39,cq39,zq39⟩:J5) ⟨U.sel [0,1] [1,0,3,4,5,6],by (try dsimp only);omega,by (try dsimp only);omega,by (try dsimp only);omega,by (try dsimp only);omega⟩ (by kernel_rfl))
  exact cJ
 clear U;rintro⟨KJ,nJ,NJ,gd,a0,k0,c0,z0,a1,k1,c1,z1⟩ v45 ⟨U,qnJ,qNJ,mk0,mk1⟩;dsimp only at *;refine ay (aC (tc 25 18 #[.int .u64 10] (eOf (y:=10) ⟨by decide,by decide⟩) ?_));rintro _ v47 ⟨aq46,nq46,cq46,zq46,rfl,M,h,mq46,B⟩;refine⟨_,rfl,?_⟩;replace U:=U.num M h B;clear M h B;refine t 26 (pq g12 7) (ts (U.bk 1 rfl) 7 (.agg #[.slice aq46 nq46 cq46]) [.slice aq46 nq46 cq46] [.int .u64 0,.int .u64 4,.slice F I A,.bool false,.int .u64 0,.bool false,.int .u64 1,.slice aq46 nq46 cq46,.slice r H x,.slice G u v] ?_);intro v48 Y C;replace U:=U.put 1 rfl C Y;refine aA (ah (ay (aC (t 28 (pg g0) (tlr 29 [.int .u64 0,.int .u64 4,.slice F I A,.bool false,.int .u64 0,.bool false,.int .u64 1,.slice aq46 nq46 cq46,.slice r H x,.slice G u v] (U.bk 1 rfl) 0 (tc 30 20 #[pg g0,.int .u64 16,.agg #[.int .u64 0,.int .u64 4,.slice F I A,.bool false,.int .u64 0,.bool false,.int .u64 1,.slice aq46 nq46 cq46,.slice r H x,.slice G u v]] (ClE.cast (E':=kE3) (pq:=2) (jh (E:=kE2) U.sx (id:=16) ⟨by decide,by decide⟩ ⟨by decide,by decide⟩ (U.nq 5 rfl).nk (by omega) (U.nq 0 rfl).nk (by omega) (U.nq 4 rfl).nk (by omega) (U.nq 3 rfl).nk (by omega) (by omega) (by omega)) (by decide) kq3) ?_))))));rintro _ v56 ⟨d,j,g,zq49,aq50,nq50,cq50,zq50,l,i,q,zq51,f,o,k,zq52,K53,n54,N55,rfl,S,qn54,qN55,c,hC,Q0,mq49,h0,Q1,mq50,h1,Q2,mq51,h2,Q3,mq52,h3⟩;refine⟨_,rfl,?_⟩;have L:=U.lt;replace U:=((((U.op S c hC).add L Q0 h0).add L Q1 h1).add L Q2 h2).add L Q3 h3;clear L S c hC Q0 h0 Q1 h1 Q2 h2 Q3 h3;refine t 27 (.tuple #[.agg #[.int .u64 0,.int .u64 4,.slice d j g,.bool false,.int .u64 0,.bool false,.int .u64 2,.slice none 0 0,.slice l i q,.slice f o k],.agg #[.slice aq50 nq50 cq50]]) (t 31 (.agg #[.int .u64 0,.int .u64 4,.slice d j g,.bool false,.int .u64 0,.bool false,.int .u64 2,.slice none 0 0,.slice l i q,.slice f o k]) (t 32 (.agg #[.slice aq50 nq50 cq50]) (ta 4 [.slice none 0 0] 32 (pg) ?_)));intro v57 g58 Xg58 hg58 B;replace U:=U.new Xg58 hg58 B;clear Xg58 hg58 B;refine ts (U.bk 2 rfl) 0 (.agg #[.int .u64 0,.int .u64 4,.slice d j g,.bool false,.int .u64 0,.bool false,.int .u64 2,.slice none 0 0,.slice l i q,.slice f o k]) [.int .u64 0,.int .u64 4,.slice d j g,.bool false,.int .u64 0,.bool false,.int .u64 2,.slice none 0 0,.slice l i q,.slice f o k] [.int .u64 0,.int .u64 4,.slice d j g,.bool false,.int .u64 0,.bool false,.int .u64 2,.slice none 0 0,.slice l i q,.slice f o k] ?_
 intro v59 Y C;replace U:=U.put 2 rfl C Y;refine ts (U.bk 0 rfl) 0 (.agg #[.slice aq50 nq50 cq50]) [.slice aq50 nq50 cq50] [.slice aq50 nq50 cq50] ?_
 intro v60 Y C;replace U:=U.put 0 rfl C Y;refine aA (ah (ay (aC (t 34 (pg g0) (tlr 35 [.int .u64 0,.int .u64 4,.slice d j g,.bool false,.int .u64 0,.bool false,.int .u64 2,.slice none 0 0,.slice l i q,.slice f o k] (U.bk 2 rfl) 0 (tlr 36 [.slice a0 k0 c0,.int .u64 0,.slice a1 k1 c1] (U.bk 1 rfl) 0 (tc 37 14 #[pg g0,.int .u64 16,.agg #[.int .u64 0,.int .u64 4,.slice d j g,.bool false,.int .u64 0,.bool false,.int .u64 2,.slice none 0 0,.slice l i q,.slice f o k],.agg #[.slice a0 k0 c0,.int .u64 0,.slice a1 k1 c1]] (uw.cast (c':=0) (V':=(25 * 10 ^ 35)) (lH (x0:=0) (z0:=0) (x1:=0) (z1:=0) (x2:=0) (z2:=0) (x3:=0) (z3:=0) (x4:=0) (z4:=0) (E:=kE3) U.sx (id:=16) ⟨by decide,by decide⟩ (U.nq 6 rfl) (by omega) (by decide +kernel) (by omega) (by decide +kernel) (by omega) (by omega)) (by decide +kernel) (by decide +kernel)) ?_)))))));rintro _ v62 ⟨X,ae,aa,zq61,rfl,S,C,Q,mq61,h⟩;refine⟨_,rfl,?_⟩;have L:=U.lt;replace U:=(U.ask S C).add L Q h;clear L S C Q h;refine t 33 (.tuple #[.agg #[.slice X ae aa],.int .i64 0]) (t 38 (.agg #[.slice X ae aa]) (t 39 (.int .i64 0) (ta 5 [.slice none 0 0] 32 (pg) ?_)));intro v63 g64 Xg64 hg64 B;replace U:=U.new Xg64 hg64 B;clear Xg64 hg64 B;refine ts (U.bk 0 rfl) 0 (.agg #[.slice X ae aa]) [.slice X ae aa] [.slice X ae aa] ?_
 intro v65 Y C;replace U:=U.put 0 rfl C Y;refine t 6 (.int .i64 0) (aA (ah (aY [(1,pg g0),(2,pg g12),(3,pg gd),(4,pg g58),(5,pg g64),(6,.int .i64 0)] (by kernel_rfl) (ay (ay (aC (t 40 (pq g12 6) (tl 41 (.int .u64 2) (U.bk 3 rfl) 6 (t 42 (.bool false) (t 43 (.bool false) (t 44 (pq gd 1) (tl 45 (.int .u64 0) (U.bk 2 rfl) 1 (t 46 (.bool false) (t 47 (.bool false) (t 48 (.bool false) (t 49 (pq gd 2) (tlr 50 [.slice a1 k1 c1] (U.bk 2 rfl) 2 (tc 51 21 #[.agg #[.slice a1 k1 c1]] (yV (U.nq 7 rfl).nat (by omega) (gM (by decide +kernel))) ?_))))))))))))))))));rintro _ v66 ⟨T,rfl,D,hT,B⟩;refine⟨_,rfl,?_⟩;obtain rfl:=nu D [49] [49] (by decide) (by decide +kernel) (by decide) (.inl rfl) (by decide +kernel);clear D hT;replace U:=U.keep B;clear B;refine t 52 (.bool false) (t 53 (.bool false) (t 54 (.bool false) (tlr 55 [.slice aq50 nq50 cq50] (U.bk 1 rfl) 0 (tc 56 22 #[.agg #[.slice aq50 nq50 cq50]] (dZ (b:=true) (U.nq 3 rfl).nat (by omega) (by decide +kernel)) ?_))));rintro _ v67 ⟨rfl,B⟩;refine⟨_,rfl,?_⟩;replace U:=U.keep B;clear B;refine t 57 (.bool false) (t 58 (.bool false) (t 59 (.bool false) (tlr 60 [.slice X ae aa] (U.bk 0 rfl) 0 (tc 61 21 #[.agg #[.slice X ae aa]] (yV (U.nq 0 rfl).nat (by omega) (gM (by decide +kernel))) ?_))));rintro _ v68 ⟨T,rfl,D,hT,B⟩;refine⟨_,rfl,?_⟩;obtain rfl:=nu D [50,46,53] [50] (by decide) (by decide +kernel) (by decide) (.inl rfl) (by decide +kernel);clear D hT;replace U:=U.keep B;clear B;refine t 62 (.bool false) (t 63 (.bool false) (t 64 (.bool false) (t 65 (.int .i64 0) (t 66 (.bool false) (t 67 (.bool false) (aA (ah (aY [(1,pg g0),(2,pg g12),(3,pg gd),(67,.bool false)] (by kernel_rfl) (cE (bF (ah (ay (aC (t 69 (pg g0) (tlr 70 [.int .u64 0,.int .u64 4,.slice d j g,.bool false,.int .u64 0,.bool false,.int .u64 2,.slice none 0 0,.slice l i q,.slice f o k] (U.bk 3 rfl) 0 (tc 71 20 #[pg g0,.int .u64 16,.agg #[.int .u64 0,.int .u64 4,.slice d j g,.bool false,.int .u64 0,.bool false,.int .u64 2,.slice none 0 0,.slice l i q,.slice f o k]] (ClE.cast (E':=kE4) (pq:=3) (jh (E:=kE3) U.sx (id:=16) ⟨by decide,by decide⟩ ⟨by decide,by decide⟩ (U.nq 4 rfl).nk (by omega) (dA _ _).nk (by omega) (U.nq 2 rfl).nk (by omega) (U.nq 1 rfl).nk (by omega) (by omega) (by omega)) (by decide) kq4) ?_))))))))))))))));rintro _ v76 ⟨aq69,nq69,cq69,zq69,aq70,nq70,cq70,zq70,V,nq71,W,zq71,aq72,nq72,J,zq72,K73,n74,N75,rfl,S,qn74,qN75,c,hC,Q0,mq69,h0,Q1,mq70,h1,Q2,mq71,h2,Q3,mq72,h3⟩;refine⟨_,rfl,?_⟩;have L:=U.lt;replace U:=((((U.op S c hC).add L Q0 h0).add L Q1 h1).add L Q2 h2).add L Q3 h3;clear L S c hC Q0 h0 Q1 h1 Q2 h2 Q3 h3;refine t 68 (.tuple #[.agg #[.int .u64 0,.int .u64 4,.slice aq69 nq69 cq69,.bool false,.int .u64 0,.bool false,.int .u64 3,.slice none 0 0,.slice V nq71 W,.slice aq72 nq72 J],.agg #[.slice aq70 nq70 cq70]]) (t 72 (.agg #[.int .u64 0,.int .u64 4,.slice aq69 nq69 cq69,.bool false,.int .u64 0,.bool false,.int .u64 3,.slice none 0 0,.slice V nq71 W,.slice aq72 nq72 J]) (t 73 (.agg #[.slice aq70 nq70 cq70]) (ts (U.bk 3 rfl) 0 (.agg #[.int .u64 0,.int .u64 4,.slice aq69 nq69 cq69,.bool false,.int .u64 0,.bool false,.int .u64 3,.slice none 0 0,.slice V nq71 W,.slice aq72 nq72 J]) [.int .u64 0,.int .u64 4,.slice aq69 nq69 cq69,.bool false,.int .u64 0,.bool false,.int .u64 3,.slice none 0 0,.slice V nq71 W,.slice aq72 nq72 J] [.int .u64 0,.int .u64 4,.slice aq69 nq69 cq69,.bool false,.int .u64 0,.bool false,.int .u64 3,.slice none 0 0,.slice V nq71 W,.slice aq72 nq72 J] ?_)));intro v77 Y C;replace U:=U.put 3 rfl C Y;refine aA (ah (ay (aC (t 74 (pg g0) (tlr 75 [.int .u64 0,.int .u64 4,.slice aq69 nq69 cq69,.bool false,.int .u64 0,.bool false,.int .u64 3,.slice none 0 0,.slice V nq71 W,.slice aq72 nq72 J] (U.bk 3 rfl) 0 (tc 76 23 #[pg g0,.int .u64 16,.agg #[.int .u64 0,.int .u64 4,.slice aq69 nq69 cq69,.bool false,.int .u64 0,.bool false,.int .u64 3,.slice none 0 0,.slice V nq71 W,.slice aq72 nq72 J],.int .u64 2] (CuE.cast (E':=kE5) (p:=2) (wc (E:=kE4) (af:=2) U.sx (id:=16) ⟨by decide,by decide⟩ (U.nq 3 rfl).nk (by omega) (dA _ _).nk (by omega) (U.nq 1 rfl).nk (by omega) (U.nq 0 rfl).nk (by omega) (by omega) (by omega)) (by decide) kq5) ?_))))))
 rintro _ v85 ⟨aq78,nq78,cq78,zq78,aq79,nq79,cq79,zq79,aq80,nq80,cq80,zq80,aq81,nq81,cq81,zq81,K82,n83,N84,rfl,S,qn83,qN84,c,hC,Q0,mq78,h0,Q1,mq79,h1,Q2,mq80,h2,Q3,mq81,h3⟩;refine⟨_,rfl,?_⟩;have L:=U.lt;replace U:=((((U.op S c hC).add L Q0 h0).add L Q1 h1).add L Q2 h2).add L Q3 h3;clear L S c hC Q0 h0 Q1 h1 Q2 h2 Q3 h3;refine ts (U.bk 3 rfl) 0 (.agg #[.int .u64 0,.int .u64 2,.slice aq78 nq78 cq78,.bool false,.int .u64 0,.bool false,.int .u64 3,.slice aq79 nq79 cq79,.slice aq80 nq80 cq80,.slice aq81 nq81 cq81]) [.int .u64 0,.int .u64 2,.slice aq78 nq78 cq78,.bool false,.int .u64 0,.bool false,.int .u64 3,.slice aq79 nq79 cq79,.slice aq80 nq80 cq80,.slice aq81 nq81 cq81] [.int .u64 0,.int .u64 2,.slice aq78 nq78 cq78,.bool false,.int .u64 0,.bool false,.int .u64 3,.slice aq79 nq79 cq79,.slice aq80 nq80 cq80,.slice aq81 nq81 cq81] ?_
 intro v86 Y C;replace U:=U.put 3 rfl C Y;refine aA (ah (ay (aC (tc 77 18 #[.int .u64 10] (eOf (y:=10) ⟨by decide,by decide⟩) ?_))));rintro _ v88 ⟨aq87,nq87,cq87,zq87,rfl,M,h,mq87,B⟩;refine⟨_,rfl,?_⟩;replace U:=U.num M h B;clear M h B;refine t 78 (pq g12 7) (ts (U.bk 3 rfl) 7 (.agg #[.slice aq87 nq87 cq87]) [.slice aq87 nq87 cq87] [.int .u64 0,.int .u64 2,.slice aq78 nq78 cq78,.bool false,.int .u64 0,.bool false,.int .u64 3,.slice aq87 nq87 cq87,.slice aq80 nq80 cq80,.slice aq81 nq81 cq81] ?_);intro v89 Y C;replace U:=U.put 3 rfl C Y;refine aA (ah (ay (aC (t 80 (pg g0) (tlr 81 [.int .u64 0,.int .u64 2,.slice aq78 nq78 cq78,.bool false,.int .u64 0,.bool false,.int .u64 3,.slice aq87 nq87 cq87,.slice aq80 nq80 cq80,.slice aq81 nq81 cq81] (U.bk 3 rfl) 0 (tc 82 20 #[pg g0,.int .u64 16,.agg #[.int .u64 0,.int .u64 2,.slice aq78 nq78 cq78,.bool false,.int .u64 0,.bool false,.int .u64 3,.slice aq87 nq87 cq87,.slice aq80 nq80 cq80,.slice aq81 nq81 cq81]] (ClE.cast (E':=kE6) (pq:=4) (jh (E:=kE5) U.sx (id:=16) ⟨by decide,by decide⟩ ⟨by decide,by decide⟩ (U.nq 4 rfl).nk (by omega) (U.nq 0 rfl).nk (by omega) (U.nq 2 rfl).nk (by omega) (U.nq 1 rfl).nk (by omega) (by omega) (by omega)) (by decide) kq6) ?_))))));rintro _ v97 ⟨P,nq90,Z,zq90,aq91,nq91,cq91,zq91,ac,nq92,cq92,zq92,R,ab,cq93,zq93,K94,n95,N96,rfl,S,qn95,qN96,c,hC,Q0,mq90,h0,Q1,mq91,h1,Q2,mq92,h2,Q3,mq93,h3⟩;refine⟨_,rfl,?_⟩;have L:=U.lt;replace U:=((((U.op S c hC).add L Q0 h0).add L Q1 h1).add L Q2 h2).add L Q3 h3;clear L S c hC Q0 h0 Q1 h1 Q2 h2 Q3 h3;refine t 79 (.tuple #[.agg #[.int .u64 0,.int .u64 2,.slice P nq90 Z,.bool false,.int .u64 0,.bool false,.int .u64 4,.slice none 0 0,.slice ac nq92 cq92,.slice R ab cq93],.agg #[.slice aq91 nq91 cq91]]) (t 83 (.agg #[.int .u64 0,.int .u64 2,.slice P nq90 Z,.bool false,.int .u64 0,.bool false,.int .u64 4,.slice none 0 0,.slice ac nq92 cq92,.slice R ab cq93]) (t 84 (.agg #[.slice aq91 nq91 cq91]) (ts (U.bk 3 rfl) 0 (.agg #[.int .u64 0,.int .u64 2,.slice P nq90 Z,.bool false,.int .u64 0,.bool false,.int .u64 4,.slice none 0 0,.slice ac nq92 cq92,.slice R ab cq93]) [.int .u64 0,.int .u64 2,.slice P nq90 Z,.bool false,.int .u64 0,.bool false,.int .u64 4,.slice none 0 0,.slice ac nq92 cq92,.slice R ab cq93] [.int .u64 0,.int .u64 2,.slice P nq90 Z,.bool false,.int .u64 0,.bool false,.int .u64 4,.slice none 0 0,.slice ac nq92 cq92,.slice R ab cq93] ?_)));intro v98 Y C;replace U:=U.put 3 rfl C Y;refine aA (ah (aY [(1,pg g0),(2,pg g12),(3,pg gd)] (by kernel_rfl) (ay (aC (t 86 (pg g0) (tlr 87 [.int .u64 0,.int .u64 2,.slice P nq90 Z,.bool false,.int .u64 0,.bool false,.int .u64 4,.slice none 0 0,.slice ac nq92 cq92,.slice R ab cq93] (U.bk 3 rfl) 0 (tlr 88 [.slice a0 k0 c0,.int .u64 0,.slice a1 k1 c1] (U.bk 2 rfl) 0 (tc 89 14 #[pg g0,.int .u64 16,.agg #[.int .u64 0,.int .u64 2,.slice P nq90 Z,.bool false,.int .u64 0,.bool false,.int .u64 4,.slice none 0 0,.slice ac nq92 cq92,.slice R ab cq93],.agg #[.slice a0 k0 c0,.int .u64 0,.slice a1 k1 c1]] (uw.cast (c':=1) (V':=(5 * 10 ^ 36)) (lH (x0:=0) (z0:=0) (x1:=0) (z1:=0) (x2:=0) (z2:=0) (x3:=0) (z3:=0) (x4:=0) (z4:=0) (E:=kE6) U.sx (id:=16) ⟨by decide,by decide⟩ (U.nq 20 rfl) (by omega) (by decide +kernel) (by omega) (by decide +kernel) (by omega) (by omega)) (by decide +kernel) (by decide +kernel)) ?_))))))));rintro _ v100 ⟨ad,O,cq99,zq99,rfl,S,C,Q,mq99,h⟩;refine⟨_,rfl,?_⟩;have L:=U.lt;replace U:=(U.ask S C).add L Q h;clear L S C Q h;refine t 85 (.tuple #[.agg #[.slice ad O cq99],.int .i64 1]) (t 90 (.agg #[.slice ad O cq99]) (t 91 (.int .i64 1) (ta 7 [.slice none 0 0] 32 (pg) ?_)));intro v101 g102 Xg102 hg102 B;replace U:=U.new Xg102 hg102 B;clear Xg102 hg102 B;refine ts (U.bk 0 rfl) 0 (.agg #[.slice ad O cq99]) [.slice ad O cq99] [.slice ad O cq99] ?_
 intro v103 Y C;replace U:=U.put 0 rfl C Y;refine t 8 (.int .i64 1) (aA (ah (ay (aC (t 93 (pg g0) (tc 94 9 #[pg g0,.int .u64 16] (vS (E:=kE6) (a:=3) (b:=1) U.sx (id:=16) ⟨by decide,by decide⟩ (by omega) (by omega) (by decide +kernel) (by decide +kernel)) ?_))))));rintro _ v106 ⟨K104,n105,rfl,S,qn105,c,hC⟩;refine⟨_,rfl,?_⟩;replace U:=U.op S c hC;clear S c hC;refine t 92 (.tuple #[.int .i64 3,.int .i64 1]) (t 95 (.int .i64 3) (t 96 (.int .i64 1) (t 9 (.int .i64 3) (t 10 (.int .i64 1) (aA (ah (aY [(1,pg g0),(2,pg g12),(3,pg gd),(7,pg g102),(8,.int .i64 1),(9,.int .i64 3),(10,.int .i64 1)] (by kernel_rfl) (ay (aC (t 97 (pg g0) (tlr 98 [.slice a0 k0 c0,.int .u64 0,.slice a1 k1 c1] (U.bk 3 rfl) 0 (tc 99 24 #[pg g0,.int .u64 16,.agg #[.slice a0 k0 c0,.int .u64 0,.slice a1 k1 c1]] (SxF.castE (E':=kE7) (sC (E:=kE6) U.sx (id:=16) ⟨by decide,by decide⟩ (U.nq 20 rfl).nk (by omega) (U.nq 21 rfl).nk (by omega) (by omega) (by omega)) kq7) ?_))))))))))));rintro _ v110 ⟨rfl,K107,n108,N109,S,qn108,qN109,c,hC⟩;refine⟨_,rfl,?_⟩;replace U:=U.op S c hC;clear S c hC;refine aA (ah (ay (aC (t 101 (pg g0) (tc 102 9 #[pg g0,.int .u64 16] (vS (E:=kE7) (a:=2) (b:=1) U.sx (id:=16) ⟨by decide,by decide⟩ (by omega) (by omega) (by decide +kernel) (by decide +kernel)) ?_)))));rintro _ v113 ⟨K111,n112,rfl,S,qn112,c,hC⟩;refine⟨_,rfl,?_⟩;replace U:=U.op S c hC;clear S c hC;refine t 100 (.tuple #[.int .i64 2,.int .i64 1]) (t 103 (.int .i64 2) (t 104 (.int .i64 1) (t 11 (.int .i64 2) (t 12 (.int .i64 1) (aA (ah (ay (aC (t 105 (pg g0) (tc 106 11 #[pg g0,.int .u64 16] (gone_v (E':=kE8) (E:=kE7) U.sx (id:=16) ⟨by decide,by decide⟩ (by omega) (by omega) kq8) ?_))))))))));rintro _ v120 ⟨K114,n115,N116,rfl,S,qn115,qN116,c,hC⟩;refine⟨_,rfl,?_⟩;replace U:=U.op S c hC;clear S c hC;refine aA (ah (aY [(1,pg g0),(2,pg g12),(7,pg g102),(8,.int .i64 1),(9,.int .i64 3),(10,.int .i64 1),(11,.int .i64 2)] (by kernel_rfl) (ay (aC (t 107 (pq g12 1) (tl 108 (.int .u64 2) (U.bk 4 rfl) 1 (t 109 (.bool true) (t 110 (.bool true) (tlr 111 [.slice ad O cq99] (U.bk 0 rfl) 0 (tc 112 21 #[.agg #[.slice ad O cq99]] (yV (U.nq 0 rfl).nat (by omega) (gM (by decide +kernel))) ?_))))))))));rintro _ v121 ⟨T,rfl,D,hT,B⟩;refine⟨_,rfl,?_⟩;obtain rfl:=nu D [53] [53] (by decide) (by decide +kernel) (by decide) (.inl rfl) (by decide +kernel);clear D hT;replace U:=U.keep B;clear B;refine t 113 (.bool true) (t 114 (.bool true) (t 115 (.bool true) (t 116 (.int .i64 1) (t 117 (.bool true) (t 118 (.bool true) (t 119 (.bool true) (t 120 (.int .i64 3) (t 121 (.bool true) (t 122 (.bool true) (t 123 (.bool true) (t 124 (.int .i64 1) (t 125 (.bool true) (t 126 (.bool true) (t 127 (.bool true) (t 128 (.int .i64 2) (t 129 (.bool true) (t 130 (.bool true) (t 131 (.bool true) (t 132 (pg g0) (tc 133 12 #[pg g0] (dumpF (E:=kE8) (m:=0) U.sx (by omega) (by decide +kernel)) ?_))))))))))))))))))));rintro _ v122 ⟨da,dc,rfl,B⟩;refine⟨_,rfl,?_⟩;replace U:=U.keep B;clear B;refine t 134 (.int .i64 0) (t 135 (.bool true) (t 136 (.bool true) (t 0 (.bool true) (aA (ah (aY [(0,.bool true)] (by kernel_rfl) (aV (aW (.bool true) (rs1 0 (by kernel_rfl) (by kernel_rfl)) ?_))))))));exact⟨rfl,U.bb⟩
end Fo
end
section
namespace Fo
open Go.RowKit Go.Lib Pg Lim Gl Kv Bk Pw
attribute [local go_sem] Oper.semAt_some
set_option linter.unusedVariables false
set_option linter.unusedSimpArgs false
section
variable {w:World}{W:List aI}{b g n n0 c0:Nat}{o:Oper}{v:Value}{ρ:Operand->Value}{ao ao' a0:Option Addr}{z0 L:List Int}{K:Nat->Prop}{R:Int->Int}
theorem jJ{W:World}{o:Nat}(B:Below w.heap.size w W)(h:w.cell? ⟨b,o,none⟩=some v):W.cell? ⟨b,o,none⟩=some v:=by
 rw[World.cell?_of_block (w:=w) (B.block b (aL h))];exact h
theorem ld_nat{o:Nat}(c:w.cell? ⟨g,o,none⟩=some v):(loadVar 30 ⟨g,o,none⟩).run Tryz.prog w=.ok v w:=by go_simp
theorem EO{off:Nat}(hc:w.cell? ⟨b,off,none⟩=some v)(c:∃ p,o.op=.load 30 p/\ρ p=.pointer (some ⟨b,off,none⟩):=by exact⟨_,rfl,by kernel_rfl⟩):(execOp ρ o).run Tryz.prog w=.ok (.value v) w:=by
 obtain⟨p,h,a⟩:=c;have:=ld_nat hc;simp only[execOp,h,a];simp[Instr.loadAt,Instr.sureAddr,Result.andThen,this]
theorem j6(p q:Int)(b:0<=p/\p < 18446744073709551616)(f:0 < q/\q < 18446744073709551616)(c:∃ u v,o.op=.binOp .rem 22 u v 22/\ρ u=.int .u64 p/\ρ v=.int .u64 q:=by exact⟨_,_,rfl,by kernel_rfl,by kernel_rfl⟩):(execOp ρ o).run Tryz.prog w=.ok (.value (.int .u64 (p % q))) w:=by
 obtain⟨u,v,h,i,d⟩:=c
 have e:p.tmod q=p % q:=Int.tmod_eq_emod_of_nonneg b.1;have e1:=Int.emod_nonneg p (show q≠0 by omega);have e2:=Int.emod_lt_of_pos p f.1
 have e3:p % q % 18446744073709551616=p % q:=Int.emod_eq_of_lt e1 (by omega)
 have g:¬ q=0:=by omega
 simp only[execOp,h,i,d];go_simp
 try simp[e,e3,g]
theorem dCmpLe{c n' c':Nat}{x y:Int}(h:aX w ao n c x)(d:aX w ao' n' c' y)(hn:n<=1099511627776)(a:n'<=1099511627776)(b:x<=y):Calls Tryz.prog 15 #[.agg #[.slice ao n c],.agg #[.slice ao' n' c']] w fun e w'=>∃ r,e=.returned (.int .i64 r)/\r<=0/\Below w.heap.size w w':=by
 refine(dCmp h d hn a).mono ?_
 rintro e w' ⟨rfl,B⟩;exact⟨_,rfl,by unfold sgn;split<;>(try split)<;>omega,B⟩
theorem u64r{v:Int}(b:(Lit.int .u64 v).wf=true):0<=v/\v < 18446744073709551616:=by
 have:=bounds_u64 b;omega
theorem ED(h:wV w a0 n0 c0 z0):∃ x,aX w a0 n0 c0 x/\n0<=9223372036854775807:=by
 obtain⟨g1,o1,l1,hl1,hc1,hm1,W1,h3⟩:=h.open;exact⟨val l1,⟨g1,o1,l1,hl1,hc1,W1,h3,rfl⟩,hm1⟩
theorem jY{B:Nat}{E:aI}{N:Nat}{rt tk un pe la a:Int}{jl bo:Bool}{C:List (Int × Int × Int)}{a1 a2 a3 a4 a5:Option Addr}{n1 c1 n2 c2 n3 c3 n4 c4 b e z5:Nat}{d:Int}(h:Sx B w K g E W n N)(F:Fs E 16 la R L C)(i:Nq w K z5 a5 b e d)(m5:b<=1000000)(hf:a∈L)(j:(pe - 1) % 18446744073709551616=la)(hC:C.length<=1000)(c:n<=1000000000000000000)(k:N+3000<=100000000):Calls Tryz.prog 14 #[pg g,.int .u64 16,.agg #[.int .u64 rt,.int .u64 tk,.slice a0 n0 c0,.bool jl,.int .u64 un,.bool bo,.int .u64 pe,.slice a1 n1 c1,.slice a2 n2 c2,.slice a3 n3 c3],.agg #[.slice a4 n4 c4,.int .u64 a,.slice a5 b e]] w (uw B w K g E W n N (aft C a).length (cmV R (aft C a) a la d)):=by
 subst j;have hu:=(F.hL a hf).1;have e1:=F.E8 hu;have e2:=F.wZ (x:=d) hf
 have f:(dB E 16 a ((pe - 1) % 18446744073709551616)).length<=1000:=by
  rw[e1];exact Nat.le_trans (List.length_filter_le _ _) hC
 have t:=lH (x0:=0) (z0:=0) (x1:=0) (z1:=0) (x2:=0) (z2:=0) (x3:=0) (z3:=0) (x4:=0) (z4:=0) (rt:=rt) (tk:=tk) (un:=un) (jl:=jl) (bo:=bo) (a0:=a0) (n0:=n0) (c0:=c0) (a1:=a1) (n1:=n1) (c1:=c1) (a2:=a2) (n2:=n2) (c2:=c2) (a3:=a3) (n3:=n3) (c3:=c3) (a4:=a4) (n4:=n4) (c4:=c4) h ⟨by decide,by decide⟩ i m5 (F.frm8 hu F.ul) c f (by omega) k;rw[e1,e2] at t;exact t
theorem CY{k:Int}(h:k<=1000000 * 18446744073709551616 ^ 4):k < LIM:=by
 have:(1000000 * 18446744073709551616 ^ 4:Int) < LIM:=by unfold LIM;decide +kernel
 omega
end
end Fo
end
end Go.Proofs.YtjejmkcjflhoiaaGreatDoor
