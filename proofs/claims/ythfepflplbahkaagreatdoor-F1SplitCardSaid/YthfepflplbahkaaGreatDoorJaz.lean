import Derived.Test.YthfepflplbahkaaGreatDoorJax
import Derived.Test.YthfepflplbahkaaGreatDoorJay
set_option maxRecDepth 100000
set_option maxHeartbeats 8000000
namespace Go.Proofs.YthfepflplbahkaaGreatDoor
section
namespace Fo
open Go.RowKit Go.Lib Pg Lim Gl Kv Bk Pw
attribute [local go_sem] Oper.semAt_some
set_option linter.unusedVariables false
set_option linter.unusedSimpArgs false
section
variable {g:List Int}{w:World}{x:Int}{K:Nat->Prop}
theorem z7(h:fG g)(a:g≠[]):nth g (g.length - 1)<=ec g:=by
 induction g with
 | nil=>exact absurd rfl a
 | cons x l ih =>
  have hx:=h x List.mem_cons_self;by_cases e:l=[]
  ·subst e;simp[ec,nth]
  ·have:=ih (fun y hy=>h y (List.mem_cons_of_mem _ hy)) e
   have c:0 < l.length:=List.length_pos_iff.2 e;rw[show (x :: l).length - 1=(l.length - 1) + 1 by simp; omega,dF,ec];have b:=(h _ (List.mem_cons_of_mem _ (ll (l:=l) (i:=l.length - 1) (by omega)))).1;omega
theorem gl(hx:x < 100):jW w x:=fun g a e c d b _=>by
 have f:=z7 a c;obtain⟨n,hn⟩:∃ n:Nat,nth g (g.length - 1)=(n:Int):=⟨(nth g (g.length - 1)).toNat,by omega⟩
 rw[hn];exact wY n (by omega) (by omega) b
theorem mo{S:ByteArray}(h:xP S x)(l wl:List UInt8)(d:(wl.map (fun c=>(c.toNat:Int))).all (fun c=>decide (48<=c/\c<=57))=true)(hv:dvI (wl.map (fun c=>(c.toNat:Int)))=x / U36)(f:0 < wl.length)(a:wl.length=1\/nth (wl.map (fun c=>(c.toNat:Int))) 0≠48)(b:l=wl ++ uR (x % U36)):S=⟨l.toArray⟩:=by
 obtain⟨g,hw,hS⟩:=h.ex;have e:=Bf hw wl d hv f a;rw[b]
 cases S with
 | mk arr =>
  simp at hS;rw[e] at hS;simp[<- hS]
theorem BN{s t:Nat}(h:s<=t):(18446744073709551616:Int) ^ s<=18446744073709551616 ^ t:=by
 have:=Nat.pow_le_pow_right (show 0 < 18446744073709551616 by decide) h
 have a:((18446744073709551616 ^ s:Nat):Int)<=((18446744073709551616 ^ t:Nat):Int):=Int.ofNat_le.2 this;rw[Int.natCast_pow,Int.natCast_pow] at a;exact a
theorem belowO{V V':World}(h:Below w.heap.size w V)(hC:Chg K V V')(a:∀ b,K b->w.heap.size<=b):Below w.heap.size w V' :=
 ((Chg.of (F:=fun _=>False) h).trans hC (fun b c hb=>by have:=a b hb; omega)).nothing
theorem DP(a:Nat)(hb:a=w.heap.size):Calls Tryz.prog 16 #[] w fun e w'=>∃ g K,e=.returned (pg g)/\Sx a w' K g [] [] 0 0/\(∀ b,K b->a<=b)/\Below w.heap.size w w':=by
 subst hb;refine snew.mono ?_
 rintro e w' ⟨g,K,rfl,S,c,B⟩;exact⟨g,K,rfl,⟨S.mono (fun _ _ h=>h.elim),B.size,c⟩,c,B⟩
end
section
variable {B:Nat} {w:World} {K:Nat->Prop} {g:Nat} {E E':aD} {W:List aD} {n N P:Nat}
theorem dumpF {m:Nat} (h:Sx B w K g E W n N) (d:N<=100000000) (hm:E.length=m):Calls Tryz.prog 15 #[pg g] w fun e w'=>∃ a c,e=.returned (.slice a m c)/\Below w.heap.size w w':=by
 refine(sdump h.sa d).mono ?_
 rintro e w' ⟨v,es,rfl,P,he,B⟩;obtain⟨a,c,rfl⟩:=P.shape
 have b:es.length=m:=by rw[<- hm,<- he,List.length_map]
 rw[b];exact⟨a,c,rfl,B⟩
end
def Ap (n z g:Nat):Prop:=n=0\/z≠g
def Fr (k s y z n:Nat):Prop:=k=0\/s<=y\/(y=z/\k=n)
theorem ne5 {k y s z n g:Nat} (h:Fr k s y z n) (hg:g < s) (e:Ap n z g):Ap k y g:=by unfold Fr at h; unfold Ap at e ⊢; omega
structure Al (B:Nat) (w:World) (K:Nat->Prop) (g:Nat) (E:aD) (W:List aD) (n N:Nat):Prop where
 sx:Sx B w K g E W n N
section
variable {B:Nat} {w w':World} {K K':Nat->Prop} {g x:Nat} {E E':aD} {W:List aD} {n N n' N':Nat}
theorem Al.cell {cs:List Value} {t:TypeId} (h:Al B w K g E W n N) (hX:Blk w x cs t) (C:Chg (· = x) w w') (b:¬ K x) (a:t≠5):Al B w' K g E W n N:=by
 have r:=Rg.cell (rg_of (X:=fun _=>True) h.sx trivial) hX C (.inr trivial) b a;exact⟨r.sx⟩
end
section
variable {w:World}{K:Nat->Prop}{n c B g N n0 P n1 n2 n3:Nat}{ao:Option Addr}{x tk pe id x0 rt un x1 x2 x3:Int}{E E':aD}{W:List aD}{args:Array Value}{jl bo:Bool}{r:Value}
theorem nk_out{V:World}{z:Nat}(h:Nk w (fun b=>w.heap.size<=b) z ao n c x)(e:Below w.heap.size w V)(a:∀ b,K b->w.heap.size<=b):Nk V K z ao n c x:=by
 have q:=h.keep e;exact⟨q.lt,q.out.imp_right fun d f=>d (a _ f),q.to⟩
theorem nk_nat(h:aV w ao n c x):∃ z,Nk w (fun b=>w.heap.size<=b) z ao n c x:=by
 obtain⟨b,o,l,e,g,f,d,j⟩:=h
 have a:n=0\/b < w.heap.size:=by
  rcases Nat.eq_zero_or_pos n with q | q
  ·exact .inl q
  ·exact .inr (aI (d.cell 0 (by omega)))
 refine⟨b,a,a.imp_right fun q=>by show ¬ (w.heap.size<=b); omega,fun k hw=>⟨b,o,l,e,g,f,⟨d.loc,fun i hi => ?_⟩,j⟩⟩;rw[World.cell?_of_block (w:=w) (hw (by omega))];exact d.cell i hi
theorem aV.ltF(h:aV w ao n c x):x < 18446744073709551616 ^ n:=by
 obtain⟨b,o,l,h1,h2,h3,h4,h5⟩:=h;have:=dw h3;rw[h1,h5] at this;exact this
structure HoV(B:Nat)(w:World)(K:Nat->Prop)(g:Nat)(E':aD)(W:List aD)(n N:Nat)(p x4 xs:Int)(n0 n4:Nat)(e:Ending)(w':World):Prop where
 ex:∃ b0 k0 d0 y0 b1 k1 d1 y1 K' n' N',e=.returned (.agg #[.slice b0 k0 d0,.int .u64 p,.slice b1 k1 d1])/\Sx B w' K' g E' W n' N'/\n'<=n + 10/\N'<=N + 10/\(∀ b,K' b->K b\/w.heap.size<=b)/\Chg K w w'/\Nq w' K' y0 b0 k0 d0 (x4)/\k0<=n4 + 1/\(k0=0\/w.heap.size<=y0)/\Nq w' K' y1 b1 k1 d1 (xs)/\k1<=n0 + n4 + 40/\(k1=0\/w.heap.size<=y1)
theorem HoE.cast{x4 p xs:Int}{n4:Nat}(h:Calls Tryz.prog P args w (HoE B w K g E W n N tk pe id x0 x4 n0 n4))(a:(pe - 1) % 18446744073709551616=p)(b:di E id p=E')(hx:x4 * (tk * U36) / x0=xs):Calls Tryz.prog P args w (HoV B w K g E' W n N p x4 xs n0 n4):=by
 subst a b hx;exact h.mono fun e c h=>⟨h.ex⟩
structure ClV(B:Nat)(w:World)(K:Nat->Prop)(g:Nat)(E':aD)(W:List aD)(n N:Nat)(rt tk:Int)(jl:Bool)(un:Int)(bo:Bool)(pq x0 x1 x2 x3:Int)(n0 n1 n2 n3:Nat)(e:Ending)(w':World):Prop where
 ex:∃ b0 k0 d0 y0 b1 k1 d1 y1 b2 k2 d2 y2 b3 k3 d3 y3 K' n' N',e=.returned (.tuple #[.agg #[.int .u64 rt,.int .u64 tk,.slice b0 k0 d0,.bool jl,.int .u64 un,.bool bo,.int .u64 pq,.slice none 0 0,.slice b2 k2 d2,.slice b3 k3 d3],.agg #[.slice b1 k1 d1]])/\Sx B w' K' g E' W n' N'/\n'<=n + 20/\N'<=N + 20/\(∀ b,K' b->K b\/w.heap.size<=b)/\Chg K w w'/\Nq w' K' y0 b0 k0 d0 (x0)/\k0<=n0 + 1/\(k0=0\/w.heap.size<=y0)/\Nq w' K' y1 b1 k1 d1 ((if tk=0 then x1 else 0))/\k1<=n1 + 1/\(k1=0\/w.heap.size<=y1)/\Nq w' K' y2 b2 k2 d2 ((if tk=0 then gS x2 x1 else x2))/\k2<=n2 + 1/\(k2=0\/w.heap.size<=y2)/\Nq w' K' y3 b3 k3 d3 (x3)/\k3<=n3 + 1/\(k3=0\/w.heap.size<=y3)
theorem ClE.cast{pq:Int}(h:Calls Tryz.prog P args w (ClE B w K g E W n N rt tk jl un bo pe id x0 x1 x2 x3 n0 n1 n2 n3))(a:(pe + 1) % 18446744073709551616=pq)(b:eV E id pe tk x1=E'):Calls Tryz.prog P args w (ClV B w K g E' W n N rt tk jl un bo pq x0 x1 x2 x3 n0 n1 n2 n3):=by
 subst a b;exact h.mono fun e c h=>⟨h.ex⟩
structure CuV(B:Nat)(w:World)(K:Nat->Prop)(g:Nat)(E':aD)(W:List aD)(n N:Nat)(rt tk:Int)(jl:Bool)(un:Int)(bo:Bool)(pe af x0 x1 x2 x3:Int)(n0 n1 n2 n3:Nat)(e:Ending)(w':World):Prop where
 ex:∃ b0 k0 d0 y0 b1 k1 d1 y1 b2 k2 d2 y2 b3 k3 d3 y3 K' n' N',e=.returned (.agg #[.int .u64 rt,.int .u64 af,.slice b0 k0 d0,.bool jl,.int .u64 un,.bool bo,.int .u64 pe,.slice b1 k1 d1,.slice b2 k2 d2,.slice b3 k3 d3])/\Sx B w' K' g E' W n' N'/\n'<=n + 10/\N'<=N + 10/\(∀ b,K' b->K b\/w.heap.size<=b)/\Chg K w w'/\Nq w' K' y0 b0 k0 d0 (x0)/\k0<=n0 + 1/\(k0=0\/w.heap.size<=y0)/\Nq w' K' y1 b1 k1 d1 (x1)/\k1<=n1 + 1/\(k1=0\/w.heap.size<=y1)/\Nq w' K' y2 b2 k2 d2 (x2)/\k2<=n2 + 1/\(k2=0\/w.heap.size<=y2)/\Nq w' K' y3 b3 k3 d3 (x3)/\k3<=n3 + 1/\(k3=0\/w.heap.size<=y3)
theorem CuE.cast{af p:Int}(h:Calls Tryz.prog P args w (CuE B w K g E W n N rt tk jl un bo pe id af x0 x1 x2 x3 n0 n1 n2 n3))(a:(pe - 1) % 18446744073709551616=p)(b:Cy E id p tk af=E'):Calls Tryz.prog P args w (CuV B w K g E' W n N rt tk jl un bo pe af x0 x1 x2 x3 n0 n1 n2 n3):=by
 subst a b;exact h.mono fun e c h=>⟨h.ex⟩
theorem nD.cast{c':Nat}{V V':Int}(h:Calls Tryz.prog P args w (nD B w K g E W n N c V))(hc:c=c')(hV:V=V'):Calls Tryz.prog P args w (nD B w K g E W n N c' V'):=by
 subst hc hV;exact h
theorem SxF.castE(h:Calls Tryz.prog P args w (SxF B w K g E W n N r))(hE:E=E'):Calls Tryz.prog P args w (SxF B w K g E' W n N r):=by
 subst hE;exact h
theorem vq{a b:Nat}(h:Sx B w K g E W n N)(hid:0<=id/\id < 18446744073709551616)(c:N<=30000000)(hn:n + 3 * N + 10<=2000000000000000000)(h7:gO E 7 id=a)(h8:gO E 8 id=b):Calls Tryz.prog 12 #[pg g,.int .u64 id] w fun e w'=>∃ K' n',e=.returned (.tuple #[.int .i64 (a:Int),.int .i64 (b:Int)])/\Sx B w' K' g E W n' N/\n'<=n + 2 + 2 * N/\(∀ b,K' b->K b\/w.heap.size<=b)/\Chg K w w':=by
 subst h7 h8;exact Cn h hid c hn
theorem gone_v(h:Sx B w K g E W n N)(hid:0<=id/\id < 18446744073709551616)(c:N<=10000000)(hn:n + 30 * N + 10<=2000000000000000000)(a:nL (nL E 7 id) 8 id=E'):Calls Tryz.prog 14 #[pg g,.int .u64 id] w fun e w'=>∃ K' n' N',e=.returned (.tuple #[])/\Sx B w' K' g E' W n' N'/\n'<=n + 20 * N + 10/\N'<=9 * N/\(∀ b,K' b->K b\/w.heap.size<=b)/\Chg K w w':=by
 subst a;exact gone_x h hid c hn
end
end Fo
end
section
namespace Fo
open Go.RowKit Go.Lib Pg Lim Gl Kv Bk Pw
set_option linter.unusedVariables false
structure Un (w0:World) (B g0:Nat) (w:World) (K:Nat->Prop) (E:aD) (n N:Nat) (bs:List Bx) (qs:List Nx):Prop where
 bb:Below w0.heap.size w0 w
 lo:w0.heap.size<=B
 sx:Sx B w K g0 E [] n N
 b:∀ p∈bs,Blk w p.1 p.2.1 p.2.2/\¬ K p.1/\w0.heap.size<=p.1
 q:∀ r∈qs,Nq w K r.1 r.2.1 r.2.2.1 r.2.2.2.1 r.2.2.2.2
 e:∀ p∈bs,∀ r∈qs,r.2.2.1=0\/r.1≠p.1
 d:bs.Pairwise (fun a b=>a.1≠b.1)
section
variable {w0 w w':World} {B g0 n N n' N' g i:Nat} {K K':Nat->Prop} {E E':aD} {bs:List Bx} {qs:List Nx} {cs cs':List Value} {t:TypeId}
section
variable {z k d s:Nat}{a:Option Addr}{x:Int}
theorem Un.lt(h:Un w0 B g0 w K E n N bs qs):∀ p∈bs,p.1 < w.heap.size:=fun p hp=>(h.b p hp).1.lt
theorem Un.out(h:Un w0 B g0 w K E n N bs qs):∀ b,K b->w0.heap.size<=b:=fun b hb=>Nat.le_trans h.lo (h.sx.kb b hb)
theorem DQ(bb:Below w0.heap.size w0 w)(lo:w0.heap.size<=B)(sx:Sx B w K g0 E [] n N):Un w0 B g0 w K E n N [] []:=⟨bb,lo,sx,fun _ h=>(List.not_mem_nil h).elim,fun _ h=>(List.not_mem_nil h).elim,fun _ h=>(List.not_mem_nil h).elim,List.Pairwise.nil⟩
theorem Un.keep(h:Un w0 B g0 w K E n N bs qs)(b:Below w.heap.size w w'):Un w0 B g0 w' K E n N bs qs:=⟨aj h.bb b,h.lo,h.sx.keep b,fun p a=>⟨(h.b p a).1.keep b,(h.b p a).2⟩,fun r c=>(h.q r c).keep b,h.e,h.d⟩
theorem Un.drew(h:Un w0 B g0 w K E n N bs qs):Un w0 B g0 w.drew K E n N bs qs:=h.keep (Below.refl _ _).drew
theorem Un.op(h:Un w0 B g0 w K E n N bs qs)(S:Sx B w' K' g0 E' [] n' N')(c:∀ b,K' b->K b\/w.heap.size<=b)(hC:Chg K w w'):Un w0 B g0 w' K' E' n' N' bs qs:=⟨belowO h.bb hC h.out,h.lo,S,fun p a=>⟨(h.b p a).1.chg hC (h.b p a).2.1,uO (h.b p a).1 (h.b p a).2.1 c,(h.b p a).2.2⟩,fun r f=>(h.q r f).op c hC,h.e,h.d⟩
theorem Un.ask(h:Un w0 B g0 w K E n N bs qs)(S:Sx B w' K g0 E' [] n' N')(C:Chg (· = g0) w w'):Un w0 B g0 w' K E' n' N' bs qs:=h.op S (fun _ h=>.inl h) (C.mono (fun b _ (e:b=g0)=>e▸h.sx.sa.top))
theorem Un.add(h:Un w0 B g0 w K E n N bs qs)(L:∀ p∈bs,p.1 < s)(Q:Nq w K z a k d x)(f:k=0\/s<=z):Un w0 B g0 w K E n N bs ((z,a,k,d,x) :: qs):=⟨h.bb,h.lo,h.sx,h.b,List.forall_mem_cons.2 ⟨Q,h.q⟩,fun p c=>List.forall_mem_cons.2 ⟨f.imp_right (fun q e=>by have:=L p c; have g:z=p.1:=e; omega),h.e p c⟩,h.d⟩
theorem Un.num(h:Un w0 B g0 w K E n N bs qs)(M:Nf w' z a k d x)(hz:k=0\/w.heap.size<=z)(b:Below w.heap.size w w'):Un w0 B g0 w' K E n N bs ((z,a,k,d,x) :: qs):=(h.keep b).add h.lt (ep h.sx M hz) hz
theorem Un.new(h:Un w0 B g0 w K E n N bs qs)(X:Blk w' g cs t)(a:w.heap.size<=g)(b:Below w.heap.size w w'):Un w0 B g0 w' K E n N ((g,cs,t) :: bs) qs:=by
 have u:=h.keep b;refine⟨u.bb,u.lo,u.sx,List.forall_mem_cons.2 ⟨⟨X,fun q=>by have:=h.sx.sa.lt q; omega,Nat.le_trans h.bb.size a⟩,u.b⟩,u.q,List.forall_mem_cons.2 ⟨fun r c=>ne1 (h.q r c).lt a,u.e⟩,List.pairwise_cons.2 ⟨fun p f e=>by have:=h.lt p f; have i:g=p.1:=e; omega,u.d⟩⟩
theorem Un.bk(h:Un w0 B g0 w K E n N bs qs)(i:Nat)(hi:bs[i]? = some (g,cs,t)):Blk w g cs t:=(h.b _ (List.mem_of_getElem? hi)).1
theorem Un.nq(h:Un w0 B g0 w K E n N bs qs)(i:Nat)(hi:qs[i]? = some (z,a,k,d,x)):Nq w K z a k d x:=h.q _ (List.mem_of_getElem? hi)
theorem Un.put(h:Un w0 B g0 w K E n N bs qs)(i:Nat)(hi:bs[i]? = some (g,cs,t))(C:Chg (· = g) w w')(Y:Blk w' g cs' t)(f:t≠5):Un w0 B g0 w' K E n N (bs.set i (g,cs',t)) qs:=by
 have hm:=List.mem_of_getElem? hi;obtain⟨X,nk,y⟩:=h.b _ hm;obtain⟨r1,j⟩:=qi (q:=(g,cs',t)) h.d hi rfl;have A:=Al.cell ⟨h.sx⟩ X C nk f;refine⟨aZ h.bb C y,h.lo,A.sx,fun p a => ?_,fun r c=>(h.q r c).cell C (h.e _ hm r c),fun p a => ?_,r1⟩
 ·by_cases e:p=(g,cs',t)
  ·subst e;exact⟨Y,nk,y⟩
  ·rcases eG a with q | q
   ·exact absurd q e
   ·exact⟨(h.b p q).1.chg C (j p a e),(h.b p q).2⟩
 ·rcases eG a with q | q
  ·rw[q]
   show ∀ r∈qs,r.2.2.1=0\/r.1≠g
   exact h.e _ hm
  ·exact h.e p q
theorem Un.val{y:Int}(h:Un w0 B g0 w K E n N bs qs)(i:Nat)(hi:qs[i]? = some (z,a,k,d,x))(e:x=y):Un w0 B g0 w K E n N bs (qs.set i (z,a,k,d,y)):=by
 subst e
 rw[show qs.set i (z,a,k,d,x)=qs from List.ext_getElem? fun j=>by
  rw[List.getElem?_set];split
  ·rename_i e;subst e;split
   ·exact hi.symm
   ·rename_i b;rw[List.getElem?_eq_none (by omega)]
  ·rfl]
 exact h
theorem Un.sel(h:Un w0 B g0 w K E n N bs qs)(is v:List Nat)(hn:is.Nodup:=by decide):Un w0 B g0 w K E n N (is.filterMap (bs[·]?)) (v.filterMap (qs[·]?)):=by
 have m:∀ p∈is.filterMap (bs[·]?),p∈bs:=fun p a=>by
  obtain⟨i,_,e⟩:=List.mem_filterMap.1 a;exact List.mem_of_getElem? e
 have g:∀ p∈v.filterMap (qs[·]?),p∈qs:=fun p a=>by
  obtain⟨i,_,e⟩:=List.mem_filterMap.1 a;exact List.mem_of_getElem? e
 refine⟨h.bb,h.lo,h.sx,fun p a=>h.b p (m p a),fun r l=>h.q r (g r l),fun p a r l=>h.e p (m p a) r (g r l),?_⟩;have x:=h.d;clear m g h
 induction is with
 | nil=>exact List.Pairwise.nil
 | cons i is ih =>
  have f:=List.nodup_cons.1 hn;rw[List.filterMap_cons];split
  ·exact ih f.2
  ·rename_i p e;refine List.pairwise_cons.2 ⟨fun q z e2 => ?_,ih f.2⟩;obtain⟨j,y,e3⟩:=List.mem_filterMap.1 z
   have k:i≠j:=fun c=>f.1 (c▸y)
   obtain⟨li,s⟩:=List.getElem?_eq_some_iff.1 e;obtain⟨t,u⟩:=List.getElem?_eq_some_iff.1 e3;have o:=List.pairwise_iff_getElem.1 x;rcases Nat.lt_or_gt_of_ne k with c | c
   ·exact o i j li t c (by rw[s,u]; exact e2)
   ·exact o j i t li c (by rw[s,u]; exact e2.symm)
theorem Un.en(h:Un w0 B g0 w K E n N bs qs)(i:Nat)(hi:qs[i]? = some (z,a,k,d,x)):∀ p∈bs,k=0\/z≠p.1:=fun p hp=>h.e p hp _ (List.mem_of_getElem? hi)
theorem Un.nk(h:Un w0 B g0 w K E n N bs qs)(i:Nat)(hi:bs[i]? = some (g,cs,t)):¬ K g:=(h.b _ (List.mem_of_getElem? hi)).2.1
theorem Un.qU{y z0 m0:Nat}(h:Un w0 B g0 w K E n N bs qs)(L:∀ p∈bs,p.1 < s)(e0:∀ p∈bs,m0=0\/z0≠p.1)(Q:Nq w K y a k d x)(f:Fr k s y z0 m0):Un w0 B g0 w K E n N bs ((y,a,k,d,x) :: qs):=⟨h.bb,h.lo,h.sx,h.b,List.forall_mem_cons.2 ⟨Q,h.q⟩,fun p c=>List.forall_mem_cons.2 ⟨ne5 f (L p c) (e0 p c),h.e p c⟩,h.d⟩
end
end
end Fo
end
section
namespace Fo
open Go.RowKit Go.Lib Pg Lim Gl Kv Bk Pw
attribute [local go_sem] Oper.semAt_some
set_option linter.unusedVariables false
set_option linter.unusedSimpArgs false
def kE1:aD:=di [] 16 0
def kE2:aD:=di kE1 16 0
def kE3:aD:=eV kE2 16 1 4 (10 * U36)
def kE4:aD:=eV kE3 16 2 4 0
def kE5:aD:=Cy kE4 16 2 4 2
def kE6:aD:=eV kE5 16 3 2 (10 * U36)
def kE7:aD:=letE kE6 16 0
def kE8:aD:=nL (nL kE7 7 16) 8 16
theorem kq2:di kE1 16 0=kE2:=rfl
theorem kq3:eV kE2 16 1 4 (10 * U36)=kE3:=rfl
theorem kq4:eV kE3 16 2 4 0=kE4:=rfl
theorem kq5:Cy kE4 16 2 4 2=kE5:=rfl
theorem kq6:eV kE5 16 3 2 (10 * U36)=kE6:=rfl
theorem kq7:letE kE6 16 0=kE7:=rfl
theorem kq8:nL (nL kE7 7 16) 8 16=kE8:=rfl
structure J5 where
 K:Nat->Prop
 n:Nat
 N:Nat
 gd:Nat
 a0:Option Addr
 k0:Nat
 c0:Nat
 z0:Nat
 a1:Option Addr
 k1:Nat
 c1:Nat
 z1:Nat
theorem Ds {w:World}:Calls Tryz.prog 8 #[] w fun e w'=>e=.returned (.bool true)/\Below w.heap.size w w':=by
 have BB:=Below.refl w.heap.size w;refine aM (n:=137) Tryz.func8 rfl (by kernel_rfl) (by kernel_rfl) ?_
 refine ax (aA (t 0 (.bool false) ?_));refine ay (ah (ax (aA ?_)));obtain⟨Bz,hBz⟩:∃ Bz,Bz=(w).heap.size:=⟨_,rfl⟩
 have hwB:w.heap.size<=Bz:=by rw[hBz]; exact BB.size
 refine tc 13 16 #[] (DP Bz hBz) ?_
 rintro _ v1 ⟨g0,K0,rfl,S0,hK0,B0⟩;refine⟨_,rfl,?_⟩;replace BB:=aj BB B0;clear B0;have U:=DQ BB (B:=Bz) hwB S0;clear BB S0;refine t 1 (pg g0) ?_
 refine ay (ah (ax (ax (aA (t 14 (pg g0) ?_)))));refine t 15 (.bool false) ?_
 refine ay (ah (dR ?_));refine bX (ah (ax (aA (t 16 (pg g0) ?_))));refine tc 17 18 #[.int .u64 4] (eOf (y:=4) ⟨by decide,by decide⟩) ?_
 rintro _ v3 ⟨aq2,nq2,cq2,zq2,rfl,M,h,mq2,B⟩;refine⟨_,rfl,?_⟩;replace U:=U.num M h B;clear M h B;refine t 18 (.agg #[.int .u64 0,.int .u64 4,.slice aq2 nq2 cq2,.bool false,.int .u64 0,.bool false,.int .u64 0,.slice none 0 0,.slice none 0 0,.slice none 0 0]) ?_
 refine tc 19 17 #[pg g0,.int .u64 16,.agg #[.int .u64 0,.int .u64 4,.slice aq2 nq2 cq2,.bool false,.int .u64 0,.bool false,.int .u64 0,.slice none 0 0,.slice none 0 0,.slice none 0 0]] (oG U.sx (id:=16) ⟨by decide,by decide⟩ (U.nq 0 rfl).nk (by omega) (cJ _ _).nk (by omega) (cJ _ _).nk (by omega) (cJ _ _).nk (by omega) (by omega) (by omega)) ?_
 rintro _ v10 ⟨G,A,x,zq4,u,I,H,zq5,F,r,v,zq6,K7,n8,N9,rfl,S,qn8,qN9,c,hC,Q0,mq4,h0,Q1,mq5,R,Q2,mq6,h2⟩;refine⟨_,rfl,?_⟩;have L:=U.lt;replace U:=(((U.op S c hC).add L Q0 h0).add L Q1 R).add L Q2 h2;clear L S c hC Q0 h0 Q1 R Q2 h2;refine ta 2 [.int .u64 0,.int .u64 0,.slice none 0 0,.bool false,.int .u64 0,.bool false,.int .u64 0,.slice none 0 0,.slice none 0 0,.slice none 0 0] 39 (pg) ?_
 intro v11 g12 Xg12 hg12 B;replace U:=U.new Xg12 hg12 B;clear Xg12 hg12 B;refine ts (U.bk 0 rfl) 0 (.agg #[.int .u64 0,.int .u64 4,.slice G A x,.bool false,.int .u64 0,.bool false,.int .u64 1,.slice none 0 0,.slice u I H,.slice F r v]) [.int .u64 0,.int .u64 4,.slice G A x,.bool false,.int .u64 0,.bool false,.int .u64 1,.slice none 0 0,.slice u I H,.slice F r v] [.int .u64 0,.int .u64 4,.slice G A x,.bool false,.int .u64 0,.bool false,.int .u64 1,.slice none 0 0,.slice u I H,.slice F r v] ?_
 intro v13 Y C;replace U:=U.put 0 rfl C Y (by decide);clear Y C;refine ay (ah ?_);refine pW (fun(s:J5)=>[(1,pg g0),(2,pg g12),(3,pg s.gd)]) (fun s w'=>Un w Bz g0 w' s.K kE2 s.n s.N ((s.gd,[.slice s.a0 s.k0 s.c0,.int .u64 0,.slice s.a1 s.k1 s.c1],54) :: [(g12,[.int .u64 0,.int .u64 4,.slice G A x,.bool false,.int .u64 0,.bool false,.int .u64 1,.slice none 0 0,.slice u I H,.slice F r v],39)]) ((s.z0,s.a0,s.k0,s.c0,1 * U36) :: (s.z1,s.a1,s.k1,s.c1,U36) :: [(zq6,F,r,v,0),(zq5,u,I,H,0),(zq4,G,A,x,4 * U36),(zq2,aq2,nq2,cq2,4 * U36)])/\s.n<=60/\s.N<=60/\s.k0<=100/\s.k1<=200) ?_ ?_
 ·replace U:=U.drew;refine cj (fun w'=>Blk w' g12 [.int .u64 0,.int .u64 4,.slice G A x,.bool false,.int .u64 0,.bool false,.int .u64 1,.slice none 0 0,.slice u I H,.slice F r v] 39) (fun _=>false) (U.bk 0 rfl) ?_
  refine z 0 20 (pg g0) ?_
  refine zlr 1 21 [.int .u64 0,.int .u64 4,.slice G A x,.bool false,.int .u64 0,.bool false,.int .u64 1,.slice none 0 0,.slice u I H,.slice F r v] (fun _ h=>h) 0 ?_
  refine cE [2,5] ?_
  refine dV 2 (some 22) 18 #[.int .u64 1] (eOf (y:=1) ⟨by decide,by decide⟩) ?_ ?_
  ·rintro _ v15 ⟨aq14,nq14,cq14,zq14,rfl,M,h,mq14,B⟩;replace U:=U.num M h B;clear M h B;refine⟨_,rfl,(U.bk 0 rfl),?_⟩;refine zr 3 23 (.agg #[.slice aq14 nq14 cq14,.int .u64 0,.slice none 0 0]) (by intro _ _; kernel_rfl) ?_
   refine cE [4,5] ?_
   refine dV 4 (some 24) 19 #[pg g0,.int .u64 16,.agg #[.int .u64 0,.int .u64 4,.slice G A x,.bool false,.int .u64 0,.bool false,.int .u64 1,.slice none 0 0,.slice u I H,.slice F r v],.agg #[.slice aq14 nq14 cq14,.int .u64 0,.slice none 0 0]] (HoE.cast (E':=kE2) (p:=0) (xs:=U36) (fY (E:=kE1) U.sx (id:=16) ⟨by decide,by decide⟩ ⟨by decide,by decide⟩ (U.nq 3 rfl).nk (by omega) (cJ _ _).nk (by omega) (U.nq 2 rfl).nk (by omega) (U.nq 1 rfl).nk (by omega) (U.nq 0 rfl).nk (by omega) (cJ _ _).nk (by omega) (by omega) (by omega)) (by decide) kq2 (by decide +kernel)) ?_ ?_
   ·rintro _ v21 ⟨aq16,nq16,cq16,zq16,aq17,nq17,cq17,zq17,K18,n19,N20,rfl,S,qn19,qN20,c,hC,Q0,mq16,h0,Q1,mq17,R⟩;have L:=U.lt;replace U:=((U.op S c hC).add L Q0 h0).add L Q1 R;clear L S c hC Q0 h0 Q1 R;refine⟨_,rfl,(U.bk 0 rfl),?_⟩;refine za 5 3 [.slice none 0 0,.int .u64 0,.slice none 0 0] 54 (pg) ?_
    intro v22 g23 Xg23 hg23 B;replace U:=U.new Xg23 hg23 B;clear Xg23 hg23 B;refine⟨(U.bk 1 rfl),?_⟩;refine zs 6 (U.bk 0 rfl) 0 (.agg #[.slice aq16 nq16 cq16,.int .u64 0,.slice aq17 nq17 cq17]) [.slice aq16 nq16 cq16,.int .u64 0,.slice aq17 nq17 cq17] [.slice aq16 nq16 cq16,.int .u64 0,.slice aq17 nq17 cq17] ?_
    intro v24 Y C;replace U:=U.put 0 rfl C Y (by decide);clear Y C;refine⟨(U.bk 1 rfl),?_⟩;refine bB ?_
    exact dJ (⟨_,_,_,g23,aq16,nq16,cq16,zq16,aq17,nq17,cq17,zq17⟩:J5) ⟨U.sel [0,1] [1,0,3,4,5,6],by (try dsimp only); omega,by (try dsimp only); omega,by (try dsimp only); omega,by (try dsimp only); omega⟩ (by kernel_rfl)
   refine zaa 5 3 [.slice none 0 0,.int .u64 0,.slice none 0 0] 54 (pg) ?_ ?_
   ·intro v25 g26 Xg26 hg26 B;replace U:=U.new Xg26 hg26 B;clear Xg26 hg26 B;refine⟨(U.bk 1 rfl),?_⟩;refine zc 4 24 19 #[pg g0,.int .u64 16,.agg #[.int .u64 0,.int .u64 4,.slice G A x,.bool false,.int .u64 0,.bool false,.int .u64 1,.slice none 0 0,.slice u I H,.slice F r v],.agg #[.slice aq14 nq14 cq14,.int .u64 0,.slice none 0 0]] (HoE.cast (E':=kE2) (p:=0) (xs:=U36) (fY (E:=kE1) U.sx (id:=16) ⟨by decide,by decide⟩ ⟨by decide,by decide⟩ (U.nq 3 rfl).nk (by omega) (cJ _ _).nk (by omega) (U.nq 2 rfl).nk (by omega) (U.nq 1 rfl).nk (by omega) (U.nq 0 rfl).nk (by omega) (cJ _ _).nk (by omega) (by omega) (by omega)) (by decide) kq2 (by decide +kernel)) ?_
    rintro _ v32 ⟨aq27,nq27,cq27,zq27,aq28,nq28,cq28,zq28,K29,n30,N31,rfl,S,qn30,qN31,c,hC,Q0,mq27,h0,Q1,mq28,R⟩;have L:=U.lt;replace U:=((U.op S c hC).add L Q0 h0).add L Q1 R;clear L S c hC Q0 h0 Q1 R;refine⟨_,rfl,(U.bk 1 rfl),?_⟩;refine zs 6 (U.bk 0 rfl) 0 (.agg #[.slice aq27 nq27 cq27,.int .u64 0,.slice aq28 nq28 cq28]) [.slice aq27 nq27 cq27,.int .u64 0,.slice aq28 nq28 cq28] [.slice aq27 nq27 cq27,.int .u64 0,.slice aq28 nq28 cq28] ?_
    intro v33 Y C;replace U:=U.put 0 rfl C Y (by decide);clear Y C;refine⟨(U.bk 1 rfl),?_⟩;refine bB ?_
    exact dJ (⟨_,_,_,g26,aq27,nq27,cq27,zq27,aq28,nq28,cq28,zq28⟩:J5) ⟨U.sel [0,1] [1,0,3,4,5,6],by (try dsimp only); omega,by (try dsimp only); omega,by (try dsimp only); omega,by (try dsimp only); omega⟩ (by kernel_rfl)
   exact dX
  refine zaa 5 3 [.slice none 0 0,.int .u64 0,.slice none 0 0] 54 (pg) ?_ ?_
  ·intro v34 g35 Xg35 hg35 B;replace U:=U.new Xg35 hg35 B;clear Xg35 hg35 B;refine⟨(U.bk 1 rfl),?_⟩;refine zc 2 22 18 #[.int .u64 1] (eOf (y:=1) ⟨by decide,by decide⟩) ?_
   rintro _ v37 ⟨aq36,nq36,cq36,zq36,rfl,M,h,mq36,B⟩;replace U:=U.num M h B;clear M h B;refine⟨_,rfl,(U.bk 1 rfl),?_⟩;refine zr 3 23 (.agg #[.slice aq36 nq36 cq36,.int .u64 0,.slice none 0 0]) (by intro _ _; kernel_rfl) ?_
   refine zc 4 24 19 #[pg g0,.int .u64 16,.agg #[.int .u64 0,.int .u64 4,.slice G A x,.bool false,.int .u64 0,.bool false,.int .u64 1,.slice none 0 0,.slice u I H,.slice F r v],.agg #[.slice aq36 nq36 cq36,.int .u64 0,.slice none 0 0]] (HoE.cast (E':=kE2) (p:=0) (xs:=U36) (fY (E:=kE1) U.sx (id:=16) ⟨by decide,by decide⟩ ⟨by decide,by decide⟩ (U.nq 3 rfl).nk (by omega) (cJ _ _).nk (by omega) (U.nq 2 rfl).nk (by omega) (U.nq 1 rfl).nk (by omega) (U.nq 0 rfl).nk (by omega) (cJ _ _).nk (by omega) (by omega) (by omega)) (by decide) kq2 (by decide +kernel)) ?_
   rintro _ v43 ⟨aq38,nq38,cq38,zq38,aq39,nq39,cq39,zq39,K40,n41,N42,rfl,S,qn41,qN42,c,hC,Q0,mq38,h0,Q1,mq39,R⟩;have L:=U.lt;replace U:=((U.op S c hC).add L Q0 h0).add L Q1 R;clear L S c hC Q0 h0 Q1 R;refine⟨_,rfl,(U.bk 1 rfl),?_⟩;refine zs 6 (U.bk 0 rfl) 0 (.agg #[.slice aq38 nq38 cq38,.int .u64 0,.slice aq39 nq39 cq39]) [.slice aq38 nq38 cq38,.int .u64 0,.slice aq39 nq39 cq39] [.slice aq38 nq38 cq38,.int .u64 0,.slice aq39 nq39 cq39] ?_
   intro v44 Y C;replace U:=U.put 0 rfl C Y (by decide);clear Y C;refine⟨(U.bk 1 rfl),?_⟩;refine bB ?_
   exact dJ (⟨_,_,_,g35,aq38,nq38,cq38,zq38,aq39,nq39,cq39,zq39⟩:J5) ⟨U.sel [0,1] [1,0,3,4,5,6],by (try dsimp only); omega,by (try dsimp only); omega,by (try dsimp only); omega,by (try dsimp only); omega⟩ (by kernel_rfl)
  exact dX
 clear U;rintro⟨KJ,nJ,NJ,gd,a0,k0,c0,z0,a1,k1,c1,z1⟩ v45 ⟨U,qnJ,qNJ,mk0,mk1⟩;dsimp only at *;refine ax (aA (tc 25 18 #[.int .u64 10] (eOf (y:=10) ⟨by decide,by decide⟩) ?_));rintro _ v47 ⟨aq46,nq46,cq46,zq46,rfl,M,h,mq46,B⟩;refine⟨_,rfl,?_⟩;replace U:=U.num M h B;clear M h B;refine t 26 (pq g12 7) ?_
 refine ts (U.bk 1 rfl) 7 (.agg #[.slice aq46 nq46 cq46]) [.slice aq46 nq46 cq46] [.int .u64 0,.int .u64 4,.slice G A x,.bool false,.int .u64 0,.bool false,.int .u64 1,.slice aq46 nq46 cq46,.slice u I H,.slice F r v] ?_
 intro v48 Y C;replace U:=U.put 1 rfl C Y (by decide);clear Y C;refine ay (ah (ax (aA (t 28 (pg g0) ?_))));refine tlr 29 [.int .u64 0,.int .u64 4,.slice G A x,.bool false,.int .u64 0,.bool false,.int .u64 1,.slice aq46 nq46 cq46,.slice u I H,.slice F r v] (U.bk 1 rfl) 0 ?_
 refine tc 30 22 #[pg g0,.int .u64 16,.agg #[.int .u64 0,.int .u64 4,.slice G A x,.bool false,.int .u64 0,.bool false,.int .u64 1,.slice aq46 nq46 cq46,.slice u I H,.slice F r v]] (ClE.cast (E':=kE3) (pq:=2) (iA (E:=kE2) U.sx (id:=16) ⟨by decide,by decide⟩ ⟨by decide,by decide⟩ (U.nq 5 rfl).nk (by omega) (U.nq 0 rfl).nk (by omega) (U.nq 4 rfl).nk (by omega) (U.nq 3 rfl).nk (by omega) (by omega) (by omega)) (by decide) kq3) ?_
 rintro _ v56 ⟨i,o,d,zq49,aq50,ae,cq50,zq50,q,j,k,zq51,g,l,f,zq52,K53,n54,N55,rfl,S,qn54,qN55,c,hC,Q0,mq49,h0,Q1,mq50,R,Q2,mq51,h2,Q3,mq52,h3⟩;refine⟨_,rfl,?_⟩;have L:=U.lt;replace U:=((((U.op S c hC).add L Q0 h0).add L Q1 R).add L Q2 h2).add L Q3 h3;clear L S c hC Q0 h0 Q1 R Q2 h2 Q3 h3;refine t 27 (.tuple #[.agg #[.int .u64 0,.int .u64 4,.slice i o d,.bool false,.int .u64 0,.bool false,.int .u64 2,.slice none 0 0,.slice q j k,.slice g l f],.agg #[.slice aq50 ae cq50]]) ?_
 refine t 31 (.agg #[.int .u64 0,.int .u64 4,.slice i o d,.bool false,.int .u64 0,.bool false,.int .u64 2,.slice none 0 0,.slice q j k,.slice g l f]) ?_
 refine t 32 (.agg #[.slice aq50 ae cq50]) ?_
 refine ta 4 [.slice none 0 0] 32 (pg) ?_
 intro v57 g58 Xg58 hg58 B;replace U:=U.new Xg58 hg58 B;clear Xg58 hg58 B;refine ts (U.bk 2 rfl) 0 (.agg #[.int .u64 0,.int .u64 4,.slice i o d,.bool false,.int .u64 0,.bool false,.int .u64 2,.slice none 0 0,.slice q j k,.slice g l f]) [.int .u64 0,.int .u64 4,.slice i o d,.bool false,.int .u64 0,.bool false,.int .u64 2,.slice none 0 0,.slice q j k,.slice g l f] [.int .u64 0,.int .u64 4,.slice i o d,.bool false,.int .u64 0,.bool false,.int .u64 2,.slice none 0 0,.slice q j k,.slice g l f] ?_
 intro v59 Y C;replace U:=U.put 2 rfl C Y (by decide);clear Y C;refine ts (U.bk 0 rfl) 0 (.agg #[.slice aq50 ae cq50]) [.slice aq50 ae cq50] [.slice aq50 ae cq50] ?_
 intro v60 Y C;replace U:=U.put 0 rfl C Y (by decide);clear Y C;refine ay (ah (ax (aA (t 34 (pg g0) ?_))));refine tlr 35 [.int .u64 0,.int .u64 4,.slice i o d,.bool false,.int .u64 0,.bool false,.int .u64 2,.slice none 0 0,.slice q j k,.slice g l f] (U.bk 2 rfl) 0 ?_
 refine tlr 36 [.slice a0 k0 c0,.int .u64 0,.slice a1 k1 c1] (U.bk 1 rfl) 0 ?_
 refine tc 37 20 #[pg g0,.int .u64 16,.agg #[.int .u64 0,.int .u64 4,.slice i o d,.bool false,.int .u64 0,.bool false,.int .u64 2,.slice none 0 0,.slice q j k,.slice g l f],.agg #[.slice a0 k0 c0,.int .u64 0,.slice a1 k1 c1]] (nD.cast (c':=0) (V':=(25 * 10 ^ 35)) (j9 (x0:=0) (z0:=0) (x1:=0) (z1:=0) (x2:=0) (z2:=0) (x3:=0) (z3:=0) (x4:=0) (z4:=0) (E:=kE3) U.sx (id:=16) ⟨by decide,by decide⟩ (U.nq 6 rfl) (by omega) (by decide +kernel) (by omega) (by decide +kernel) (by omega) (by omega)) (by decide +kernel) (by decide +kernel)) ?_
 rintro _ v62 ⟨aa,P,X,zq61,rfl,S,C,Q,mq61,h⟩;refine⟨_,rfl,?_⟩;have L:=U.lt;replace U:=(U.ask S C).add L Q h;clear L S C Q h;refine t 33 (.tuple #[.agg #[.slice aa P X],.int .i64 0]) ?_
 refine t 38 (.agg #[.slice aa P X]) ?_
 refine t 39 (.int .i64 0) ?_
 refine ta 5 [.slice none 0 0] 32 (pg) ?_
 intro v63 g64 Xg64 hg64 B;replace U:=U.new Xg64 hg64 B;clear Xg64 hg64 B;refine ts (U.bk 0 rfl) 0 (.agg #[.slice aa P X]) [.slice aa P X] [.slice aa P X] ?_
 intro v65 Y C;replace U:=U.put 0 rfl C Y (by decide);clear Y C;refine t 6 (.int .i64 0) ?_
 refine ay (ah (aT [(1,pg g0),(2,pg g12),(3,pg gd),(4,pg g58),(5,pg g64),(6,.int .i64 0)] (by kernel_rfl) ?_));refine ax (ax (aA (t 40 (pq g12 6) ?_)));refine tl 41 (.int .u64 2) (U.bk 3 rfl) 6 ?_
 refine t 42 (.bool false) ?_
 refine t 43 (.bool false) ?_
 refine t 44 (pq gd 1) ?_
 refine tl 45 (.int .u64 0) (U.bk 2 rfl) 1 ?_
 refine t 46 (.bool false) ?_
 refine t 47 (.bool false) ?_
 refine t 48 (.bool false) ?_
 refine t 49 (pq gd 2) ?_
 refine tlr 50 [.slice a1 k1 c1] (U.bk 2 rfl) 2 ?_
 refine tc 51 35 #[.agg #[.slice a1 k1 c1]] (zn (U.nq 7 rfl).nat (by omega) (gl (by decide +kernel))) ?_
 rintro _ v66 ⟨T,rfl,D,hT,B⟩;refine⟨_,rfl,?_⟩;obtain rfl:=mo D [49] [49] (by decide) (by decide +kernel) (by decide) (.inl rfl) (by decide +kernel);clear D hT;replace U:=U.keep B;clear B;refine t 52 (.bool false) ?_
 refine t 53 (.bool false) ?_
 refine t 54 (.bool false) ?_
 refine tlr 55 [.slice aq50 ae cq50] (U.bk 1 rfl) 0 ?_
 refine tc 56 21 #[.agg #[.slice aq50 ae cq50]] (dZ (b:=true) (U.nq 3 rfl).nat (by omega) (by decide +kernel)) ?_
 rintro _ v67 ⟨rfl,B⟩;refine⟨_,rfl,?_⟩;replace U:=U.keep B;clear B;refine t 57 (.bool false) ?_
 refine t 58 (.bool false) ?_
 refine t 59 (.bool false) ?_
 refine tlr 60 [.slice aa P X] (U.bk 0 rfl) 0 ?_
 refine tc 61 35 #[.agg #[.slice aa P X]] (zn (U.nq 0 rfl).nat (by omega) (gl (by decide +kernel))) ?_
 rintro _ v68 ⟨T,rfl,D,hT,B⟩;refine⟨_,rfl,?_⟩;obtain rfl:=mo D [50,46,53] [50] (by decide) (by decide +kernel) (by decide) (.inl rfl) (by decide +kernel);clear D hT;replace U:=U.keep B;clear B;refine t 62 (.bool false) ?_
 refine t 63 (.bool false) ?_
 refine t 64 (.bool false) ?_
 refine t 65 (.int .i64 0) ?_
 refine t 66 (.bool false) ?_
 refine t 67 (.bool false) ?_
 refine ay (ah (aT [(1,pg g0),(2,pg g12),(3,pg gd),(67,.bool false)] (by kernel_rfl) ?_));refine dR ?_
 refine bX (ah (ax (aA (t 69 (pg g0) ?_))));refine tlr 70 [.int .u64 0,.int .u64 4,.slice i o d,.bool false,.int .u64 0,.bool false,.int .u64 2,.slice none 0 0,.slice q j k,.slice g l f] (U.bk 3 rfl) 0 ?_
 refine tc 71 22 #[pg g0,.int .u64 16,.agg #[.int .u64 0,.int .u64 4,.slice i o d,.bool false,.int .u64 0,.bool false,.int .u64 2,.slice none 0 0,.slice q j k,.slice g l f]] (ClE.cast (E':=kE4) (pq:=3) (iA (E:=kE3) U.sx (id:=16) ⟨by decide,by decide⟩ ⟨by decide,by decide⟩ (U.nq 4 rfl).nk (by omega) (cJ _ _).nk (by omega) (U.nq 2 rfl).nk (by omega) (U.nq 1 rfl).nk (by omega) (by omega) (by omega)) (by decide) kq4) ?_
 rintro _ v76 ⟨aq69,nq69,cq69,zq69,aq70,nq70,cq70,zq70,ac,al,V,zq71,J,nq72,cq72,zq72,K73,n74,N75,rfl,S,qn74,qN75,c,hC,Q0,mq69,h0,Q1,mq70,R,Q2,mq71,h2,Q3,mq72,h3⟩;refine⟨_,rfl,?_⟩;have L:=U.lt;replace U:=((((U.op S c hC).add L Q0 h0).add L Q1 R).add L Q2 h2).add L Q3 h3;clear L S c hC Q0 h0 Q1 R Q2 h2 Q3 h3;refine t 68 (.tuple #[.agg #[.int .u64 0,.int .u64 4,.slice aq69 nq69 cq69,.bool false,.int .u64 0,.bool false,.int .u64 3,.slice none 0 0,.slice ac al V,.slice J nq72 cq72],.agg #[.slice aq70 nq70 cq70]]) ?_
 refine t 72 (.agg #[.int .u64 0,.int .u64 4,.slice aq69 nq69 cq69,.bool false,.int .u64 0,.bool false,.int .u64 3,.slice none 0 0,.slice ac al V,.slice J nq72 cq72]) ?_
 refine t 73 (.agg #[.slice aq70 nq70 cq70]) ?_
 refine ts (U.bk 3 rfl) 0 (.agg #[.int .u64 0,.int .u64 4,.slice aq69 nq69 cq69,.bool false,.int .u64 0,.bool false,.int .u64 3,.slice none 0 0,.slice ac al V,.slice J nq72 cq72]) [.int .u64 0,.int .u64 4,.slice aq69 nq69 cq69,.bool false,.int .u64 0,.bool false,.int .u64 3,.slice none 0 0,.slice ac al V,.slice J nq72 cq72] [.int .u64 0,.int .u64 4,.slice aq69 nq69 cq69,.bool false,.int .u64 0,.bool false,.int .u64 3,.slice none 0 0,.slice ac al V,.slice J nq72 cq72] ?_
 intro v77 Y C;replace U:=U.put 3 rfl C Y (by decide);clear Y C;refine ay (ah (ax (aA (t 74 (pg g0) ?_))));refine tlr 75 [.int .u64 0,.int .u64 4,.slice aq69 nq69 cq69,.bool false,.int .u64 0,.bool false,.int .u64 3,.slice none 0 0,.slice ac al V,.slice J nq72 cq72] (U.bk 3 rfl) 0 ?_
 refine tc 76 34 #[pg g0,.int .u64 16,.agg #[.int .u64 0,.int .u64 4,.slice aq69 nq69 cq69,.bool false,.int .u64 0,.bool false,.int .u64 3,.slice none 0 0,.slice ac al V,.slice J nq72 cq72],.int .u64 2] (CuE.cast (E':=kE5) (p:=2) (BO (E:=kE4) (af:=2) U.sx (id:=16) ⟨by decide,by decide⟩ (U.nq 3 rfl).nk (by omega) (cJ _ _).nk (by omega) (U.nq 1 rfl).nk (by omega) (U.nq 0 rfl).nk (by omega) (by omega) (by omega)) (by decide) kq5) ?_
 rintro _ v85 ⟨aq78,nq78,cq78,zq78,aq79,nq79,cq79,zq79,aq80,nq80,cq80,zq80,aq81,nq81,cq81,zq81,K82,n83,N84,rfl,S,qn83,qN84,c,hC,Q0,mq78,h0,Q1,mq79,R,Q2,mq80,h2,Q3,mq81,h3⟩;refine⟨_,rfl,?_⟩;have L:=U.lt;replace U:=((((U.op S c hC).add L Q0 h0).add L Q1 R).add L Q2 h2).add L Q3 h3;clear L S c hC Q0 h0 Q1 R Q2 h2 Q3 h3;refine ts (U.bk 3 rfl) 0 (.agg #[.int .u64 0,.int .u64 2,.slice aq78 nq78 cq78,.bool false,.int .u64 0,.bool false,.int .u64 3,.slice aq79 nq79 cq79,.slice aq80 nq80 cq80,.slice aq81 nq81 cq81]) [.int .u64 0,.int .u64 2,.slice aq78 nq78 cq78,.bool false,.int .u64 0,.bool false,.int .u64 3,.slice aq79 nq79 cq79,.slice aq80 nq80 cq80,.slice aq81 nq81 cq81] [.int .u64 0,.int .u64 2,.slice aq78 nq78 cq78,.bool false,.int .u64 0,.bool false,.int .u64 3,.slice aq79 nq79 cq79,.slice aq80 nq80 cq80,.slice aq81 nq81 cq81] ?_
 intro v86 Y C;replace U:=U.put 3 rfl C Y (by decide);clear Y C;refine ay (ah (ax (aA (tc 77 18 #[.int .u64 10] (eOf (y:=10) ⟨by decide,by decide⟩) ?_))));rintro _ v88 ⟨aq87,nq87,cq87,zq87,rfl,M,h,mq87,B⟩;refine⟨_,rfl,?_⟩;replace U:=U.num M h B;clear M h B;refine t 78 (pq g12 7) ?_
 refine ts (U.bk 3 rfl) 7 (.agg #[.slice aq87 nq87 cq87]) [.slice aq87 nq87 cq87] [.int .u64 0,.int .u64 2,.slice aq78 nq78 cq78,.bool false,.int .u64 0,.bool false,.int .u64 3,.slice aq87 nq87 cq87,.slice aq80 nq80 cq80,.slice aq81 nq81 cq81] ?_
 intro v89 Y C;replace U:=U.put 3 rfl C Y (by decide);clear Y C;refine ay (ah (ax (aA (t 80 (pg g0) ?_))));refine tlr 81 [.int .u64 0,.int .u64 2,.slice aq78 nq78 cq78,.bool false,.int .u64 0,.bool false,.int .u64 3,.slice aq87 nq87 cq87,.slice aq80 nq80 cq80,.slice aq81 nq81 cq81] (U.bk 3 rfl) 0 ?_
 refine tc 82 22 #[pg g0,.int .u64 16,.agg #[.int .u64 0,.int .u64 2,.slice aq78 nq78 cq78,.bool false,.int .u64 0,.bool false,.int .u64 3,.slice aq87 nq87 cq87,.slice aq80 nq80 cq80,.slice aq81 nq81 cq81]] (ClE.cast (E':=kE6) (pq:=4) (iA (E:=kE5) U.sx (id:=16) ⟨by decide,by decide⟩ ⟨by decide,by decide⟩ (U.nq 4 rfl).nk (by omega) (U.nq 0 rfl).nk (by omega) (U.nq 2 rfl).nk (by omega) (U.nq 1 rfl).nk (by omega) (by omega) (by omega)) (by decide) kq6) ?_
 rintro _ v97 ⟨ad,O,ak,zq90,aq91,nq91,cq91,zq91,aq92,nq92,ai,zq92,aq93,ag,cq93,zq93,K94,n95,N96,rfl,S,qn95,qN96,c,hC,Q0,mq90,h0,Q1,mq91,R,Q2,mq92,h2,Q3,mq93,h3⟩;refine⟨_,rfl,?_⟩;have L:=U.lt;replace U:=((((U.op S c hC).add L Q0 h0).add L Q1 R).add L Q2 h2).add L Q3 h3;clear L S c hC Q0 h0 Q1 R Q2 h2 Q3 h3;refine t 79 (.tuple #[.agg #[.int .u64 0,.int .u64 2,.slice ad O ak,.bool false,.int .u64 0,.bool false,.int .u64 4,.slice none 0 0,.slice aq92 nq92 ai,.slice aq93 ag cq93],.agg #[.slice aq91 nq91 cq91]]) ?_
 refine t 83 (.agg #[.int .u64 0,.int .u64 2,.slice ad O ak,.bool false,.int .u64 0,.bool false,.int .u64 4,.slice none 0 0,.slice aq92 nq92 ai,.slice aq93 ag cq93]) ?_
 refine t 84 (.agg #[.slice aq91 nq91 cq91]) ?_
 refine ts (U.bk 3 rfl) 0 (.agg #[.int .u64 0,.int .u64 2,.slice ad O ak,.bool false,.int .u64 0,.bool false,.int .u64 4,.slice none 0 0,.slice aq92 nq92 ai,.slice aq93 ag cq93]) [.int .u64 0,.int .u64 2,.slice ad O ak,.bool false,.int .u64 0,.bool false,.int .u64 4,.slice none 0 0,.slice aq92 nq92 ai,.slice aq93 ag cq93] [.int .u64 0,.int .u64 2,.slice ad O ak,.bool false,.int .u64 0,.bool false,.int .u64 4,.slice none 0 0,.slice aq92 nq92 ai,.slice aq93 ag cq93] ?_
 intro v98 Y C;replace U:=U.put 3 rfl C Y (by decide);clear Y C;refine ay (ah (aT [(1,pg g0),(2,pg g12),(3,pg gd)] (by kernel_rfl) ?_));refine ax (aA (t 86 (pg g0) ?_));refine tlr 87 [.int .u64 0,.int .u64 2,.slice ad O ak,.bool false,.int .u64 0,.bool false,.int .u64 4,.slice none 0 0,.slice aq92 nq92 ai,.slice aq93 ag cq93] (U.bk 3 rfl) 0 ?_
 refine tlr 88 [.slice a0 k0 c0,.int .u64 0,.slice a1 k1 c1] (U.bk 2 rfl) 0 ?_
 refine tc 89 20 #[pg g0,.int .u64 16,.agg #[.int .u64 0,.int .u64 2,.slice ad O ak,.bool false,.int .u64 0,.bool false,.int .u64 4,.slice none 0 0,.slice aq92 nq92 ai,.slice aq93 ag cq93],.agg #[.slice a0 k0 c0,.int .u64 0,.slice a1 k1 c1]] (nD.cast (c':=1) (V':=(5 * 10 ^ 36)) (j9 (x0:=0) (z0:=0) (x1:=0) (z1:=0) (x2:=0) (z2:=0) (x3:=0) (z3:=0) (x4:=0) (z4:=0) (E:=kE6) U.sx (id:=16) ⟨by decide,by decide⟩ (U.nq 20 rfl) (by omega) (by decide +kernel) (by omega) (by decide +kernel) (by omega) (by omega)) (by decide +kernel) (by decide +kernel)) ?_
 rintro _ v100 ⟨W,Z,ab,zq99,rfl,S,C,Q,mq99,h⟩;refine⟨_,rfl,?_⟩;have L:=U.lt;replace U:=(U.ask S C).add L Q h;clear L S C Q h;refine t 85 (.tuple #[.agg #[.slice W Z ab],.int .i64 1]) ?_
 refine t 90 (.agg #[.slice W Z ab]) ?_
 refine t 91 (.int .i64 1) ?_
 refine ta 7 [.slice none 0 0] 32 (pg) ?_
 intro v101 g102 Xg102 hg102 B;replace U:=U.new Xg102 hg102 B;clear Xg102 hg102 B;refine ts (U.bk 0 rfl) 0 (.agg #[.slice W Z ab]) [.slice W Z ab] [.slice W Z ab] ?_
 intro v103 Y C;replace U:=U.put 0 rfl C Y (by decide);clear Y C;refine t 8 (.int .i64 1) ?_
 refine ay (ah (ax (aA (t 93 (pg g0) ?_))));refine tc 94 12 #[pg g0,.int .u64 16] (vq (E:=kE6) (a:=3) (b:=1) U.sx (id:=16) ⟨by decide,by decide⟩ (by omega) (by omega) (by decide +kernel) (by decide +kernel)) ?_
 rintro _ v106 ⟨K104,n105,rfl,S,qn105,c,hC⟩;refine⟨_,rfl,?_⟩;replace U:=U.op S c hC;clear S c hC;refine t 92 (.tuple #[.int .i64 3,.int .i64 1]) ?_
 refine t 95 (.int .i64 3) ?_
 refine t 96 (.int .i64 1) ?_
 refine t 9 (.int .i64 3) ?_
 refine t 10 (.int .i64 1) ?_
 refine ay (ah (aT [(1,pg g0),(2,pg g12),(3,pg gd),(7,pg g102),(8,.int .i64 1),(9,.int .i64 3),(10,.int .i64 1)] (by kernel_rfl) ?_));refine ax (aA (t 97 (pg g0) ?_));refine tlr 98 [.slice a0 k0 c0,.int .u64 0,.slice a1 k1 c1] (U.bk 3 rfl) 0 ?_
 refine tc 99 33 #[pg g0,.int .u64 16,.agg #[.slice a0 k0 c0,.int .u64 0,.slice a1 k1 c1]] (SxF.castE (E':=kE7) (ri (E:=kE6) U.sx (id:=16) ⟨by decide,by decide⟩ (U.nq 20 rfl).nk (by omega) (U.nq 21 rfl).nk (by omega) (by omega) (by omega)) kq7) ?_
 rintro _ v110 ⟨rfl,K107,n108,N109,S,qn108,qN109,c,hC⟩;refine⟨_,rfl,?_⟩;replace U:=U.op S c hC;clear S c hC;refine ay (ah (ax (aA (t 101 (pg g0) ?_))));refine tc 102 12 #[pg g0,.int .u64 16] (vq (E:=kE7) (a:=2) (b:=1) U.sx (id:=16) ⟨by decide,by decide⟩ (by omega) (by omega) (by decide +kernel) (by decide +kernel)) ?_
 rintro _ v113 ⟨K111,n112,rfl,S,qn112,c,hC⟩;refine⟨_,rfl,?_⟩;replace U:=U.op S c hC;clear S c hC;refine t 100 (.tuple #[.int .i64 2,.int .i64 1]) ?_
 refine t 103 (.int .i64 2) ?_
 refine t 104 (.int .i64 1) ?_
 refine t 11 (.int .i64 2) ?_
 refine t 12 (.int .i64 1) ?_
 refine ay (ah (ax (aA (t 105 (pg g0) ?_))));refine tc 106 14 #[pg g0,.int .u64 16] (gone_v (E':=kE8) (E:=kE7) U.sx (id:=16) ⟨by decide,by decide⟩ (by omega) (by omega) kq8) ?_
 rintro _ v120 ⟨K114,n115,N116,rfl,S,qn115,qN116,c,hC⟩;refine⟨_,rfl,?_⟩;replace U:=U.op S c hC;clear S c hC;refine ay (ah (aT [(1,pg g0),(2,pg g12),(7,pg g102),(8,.int .i64 1),(9,.int .i64 3),(10,.int .i64 1),(11,.int .i64 2)] (by kernel_rfl) ?_));refine ax (aA (t 107 (pq g12 1) ?_));refine tl 108 (.int .u64 2) (U.bk 4 rfl) 1 ?_
 refine t 109 (.bool true) ?_
 refine t 110 (.bool true) ?_
 refine tlr 111 [.slice W Z ab] (U.bk 0 rfl) 0 ?_
 refine tc 112 35 #[.agg #[.slice W Z ab]] (zn (U.nq 0 rfl).nat (by omega) (gl (by decide +kernel))) ?_
 rintro _ v121 ⟨T,rfl,D,hT,B⟩;refine⟨_,rfl,?_⟩;obtain rfl:=mo D [53] [53] (by decide) (by decide +kernel) (by decide) (.inl rfl) (by decide +kernel);clear D hT;replace U:=U.keep B;clear B;refine t 113 (.bool true) ?_
 refine t 114 (.bool true) ?_
 refine t 115 (.bool true) ?_
 refine t 116 (.int .i64 1) ?_
 refine t 117 (.bool true) ?_
 refine t 118 (.bool true) ?_
 refine t 119 (.bool true) ?_
 refine t 120 (.int .i64 3) ?_
 refine t 121 (.bool true) ?_
 refine t 122 (.bool true) ?_
 refine t 123 (.bool true) ?_
 refine t 124 (.int .i64 1) ?_
 refine t 125 (.bool true) ?_
 refine t 126 (.bool true) ?_
 refine t 127 (.bool true) ?_
 refine t 128 (.int .i64 2) ?_
 refine t 129 (.bool true) ?_
 refine t 130 (.bool true) ?_
 refine t 131 (.bool true) ?_
 refine t 132 (pg g0) ?_
 refine tc 133 15 #[pg g0] (dumpF (E:=kE8) (m:=0) U.sx (by omega) (by decide +kernel)) ?_
 rintro _ v122 ⟨da,dc,rfl,B⟩;refine⟨_,rfl,?_⟩;replace U:=U.keep B;clear B;refine t 134 (.int .i64 0) ?_
 refine t 135 (.bool true) ?_
 refine t 136 (.bool true) ?_
 refine t 0 (.bool true) ?_
 refine ay (ah (aT [(0,.bool true)] (by kernel_rfl) ?_));refine aP (aQ (.bool true) (rs1 0 (by kernel_rfl) (by kernel_rfl)) ?_);exact⟨rfl,U.bb⟩
end Fo
end
section
namespace Fo
open Go.RowKit Go.Lib Pg Lim Gl Kv Bk Pw
attribute [local go_sem] Oper.semAt_some
set_option linter.unusedVariables false
set_option linter.unusedSimpArgs false
section
variable {w:World}{W:List aD}{b g off n:Nat}{o:Oper}{v:Value}{ρ:Operand->Value}{ao ao' a:Option Addr}{K:Nat->Prop}{R:Int->Int}{L:List Int}
theorem zh{W:World}{o:Nat}(B:Below w.heap.size w W)(h:w.cell? ⟨b,o,none⟩=some v):W.cell? ⟨b,o,none⟩=some v:=by
 rw[World.cell?_of_block (w:=w) (B.block b (aI h))]; exact h
theorem vp{P:Program}(d b off n c k:Nat)(f:k < n)(a:0 < n->ao=some ⟨b,off,none⟩)(e:∃ T x y,o.op=.indexAddr T x y/\slT P T d=true/\ρ x=.slice ao n c/\ρ y=.int .i64 (k:Int):=by exact⟨_,_,_,rfl,by kernel_rfl,by kernel_rfl,by kernel_rfl⟩):(execOp ρ o).run P w=.ok (.value (.pointer (some ⟨b,off + k * d,none⟩))) w:=by
 rw[a (by omega)] at e;exact uK d b off n c k f e
theorem ld_dec{o:Nat}(c:w.cell? ⟨g,o,none⟩=some v):(loadVar 32 ⟨g,o,none⟩).run Tryz.prog w=.ok (.agg #[v]) w:=by go_simp
theorem ld_nat{o:Nat}(c:w.cell? ⟨g,o,none⟩=some v):(loadVar 30 ⟨g,o,none⟩).run Tryz.prog w=.ok v w:=by go_simp
theorem Cf(hc:w.cell? ⟨b,off,none⟩=some v)(c:∃ p,o.op=.load 32 p/\ρ p=.pointer (some ⟨b,off,none⟩):=by exact⟨_,rfl,by kernel_rfl⟩):(execOp ρ o).run Tryz.prog w=.ok (.value (.agg #[v])) w:=by
 obtain⟨p,h,a⟩:=c;have:=ld_dec hc;simp only[execOp,h,a];simp[Instr.loadAt,Instr.sureAddr,Result.andThen,this]
theorem DI(hc:w.cell? ⟨b,off,none⟩=some v)(c:∃ p,o.op=.load 30 p/\ρ p=.pointer (some ⟨b,off,none⟩):=by exact⟨_,rfl,by kernel_rfl⟩):(execOp ρ o).run Tryz.prog w=.ok (.value v) w:=by
 obtain⟨p,h,a⟩:=c;have:=ld_nat hc;simp only[execOp,h,a];simp[Instr.loadAt,Instr.sureAddr,Result.andThen,this]
theorem qV(p q:Int)(c:0<=p/\p < 18446744073709551616)(i:0 < q/\q < 18446744073709551616)(f:∃ u v,o.op=.binOp .rem 22 u v 22/\ρ u=.int .u64 p/\ρ v=.int .u64 q:=by exact⟨_,_,rfl,by kernel_rfl,by kernel_rfl⟩):(execOp ρ o).run Tryz.prog w=.ok (.value (.int .u64 (p % q))) w:=by
 obtain⟨u,v,h,b,d⟩:=f
 have e:p.tmod q=p % q:=Int.tmod_eq_emod_of_nonneg c.1;have e1:=Int.emod_nonneg p (show q≠0 by omega);have e2:=Int.emod_lt_of_pos p i.1
 have e3:p % q % 18446744073709551616=p % q:=Int.emod_eq_of_lt e1 (by omega)
 have g:¬ q=0:=by omega
 simp only[execOp,h,b,d];go_simp
 try simp[e,e3,g]
theorem yz{c n' c':Nat}{x y:Int}(h:aV w ao n c x)(d:aV w ao' n' c' y)(hn:n<=1099511627776)(a:n'<=1099511627776)(b:x<=y):Calls Tryz.prog 28 #[.agg #[.slice ao n c],.agg #[.slice ao' n' c']] w fun e w'=>∃ r,e=.returned (.int .i64 r)/\r<=0/\Below w.heap.size w w':=by
 refine(dCmp h d hn a).mono ?_
 rintro e w' ⟨rfl,B⟩;exact⟨_,rfl,by unfold sgn; split<;>(try split)<;>omega,B⟩
structure gQ(w:World)(ao:Option Addr)(n b o:Nat)(aa:Nat->Option Addr)(ns cc:Nat->Nat)(xs:Nat->Int):Prop where
 ptr:0 < n->ao=some ⟨b,o,none⟩
 cell:∀ i,i < n->w.cell? ⟨b,o + i * 1,none⟩=some (.slice (aa i) (ns i) (cc i))
 nat:∀ i,i < n->aV w (aa i) (ns i) (cc i) (xs i)
 few:n<=9223372036854775807/\∀ i,i < n->ns i<=9223372036854775807
theorem u64r{v:Int}(b:(Lit.int .u64 v).wf=true):0<=v/\v < 18446744073709551616:=by
 have:=bounds_u64 b;omega
structure iW(w:World)(a:Option Addr)(len cap:Nat):Prop where
 few:len<=cap/\cap<=maxLen
 row:∀ i,i < len->∃ b o a0 n0 c0 z0,a=some ⟨b,o,none⟩/\w.cell? ⟨b,o + i,none⟩=some (.slice a0 n0 c0)/\uX w a0 n0 c0 z0
theorem iW.open{len cap:Nat}(h:iW w a len cap):∃ b o aa ns cc xs,gQ w a len b o aa ns cc xs:=by
 have hb:∃ b o,0 < len->a=some ⟨b,o,none⟩:=by
  rcases Nat.eq_zero_or_pos len with l | l
  ·exact⟨0,0,fun h=>by omega⟩
  ·obtain⟨b,o,_,_,_,_,e,_⟩:=h.row 0 l;exact⟨b,o,fun _=>e⟩
 obtain⟨b,o,j⟩:=hb
 have s:∀ i,∃ p:Option Addr × Nat × Nat × Int,i < len->w.cell? ⟨b,o + i,none⟩=some (.slice p.1 p.2.1 p.2.2.1)/\aV w p.1 p.2.1 p.2.2.1 p.2.2.2/\p.2.1<=9223372036854775807:=fun i=>by
  by_cases hi:i < len
  ·obtain⟨u,v,a0,n0,c0,z0,e,n,r⟩:=h.row i hi
   have k:=j (by omega);rw[e] at k
   cases k;obtain⟨g1,t,l1,c,d,g,m,q⟩:=r.open;exact⟨(a0,n0,c0,val l1),fun _=>⟨n,⟨g1,t,l1,c,d,m,q,rfl⟩,g⟩⟩
  ·exact⟨(none,0,0,0),fun h=>absurd h hi⟩
 obtain⟨f,hf⟩:=Classical.skolem.1 s;have hm:=h.few;unfold maxLen at hm;exact⟨b,o,fun i=>(f i).1,fun i=>(f i).2.1,fun i=>(f i).2.2.1,fun i=>(f i).2.2.2,j,fun i hi=>by rw[Nat.mul_one]; exact(hf i hi).1,fun i hi=>(hf i hi).2.1,by omega,fun i hi=>(hf i hi).2.2⟩
theorem l4{B:Nat}{E:aD}{N:Nat}{rt tk un pe la a:Int}{jl bo:Bool}{C:List (Int × Int × Int)}{a0 a1 a2 a3 a4 a5:Option Addr}{n0 c0 n1 c1 n2 c2 n3 c3 n4 c4 b e z5:Nat}{c:Int}(h:Sx B w K g E W n N)(F:Fs E 16 la R L C)(j:Nq w K z5 a5 b e c)(m5:b<=1000000)(hf:a∈L)(i:(pe - 1) % 18446744073709551616=la)(hC:C.length<=1000)(d:n<=1000000000000000000)(f:N + 3000<=100000000):Calls Tryz.prog 20 #[pg g,.int .u64 16,.agg #[.int .u64 rt,.int .u64 tk,.slice a0 n0 c0,.bool jl,.int .u64 un,.bool bo,.int .u64 pe,.slice a1 n1 c1,.slice a2 n2 c2,.slice a3 n3 c3],.agg #[.slice a4 n4 c4,.int .u64 a,.slice a5 b e]] w (nD B w K g E W n N (aft C a).length (cmV R (aft C a) a la c)):=by
 subst i;have hu:=(F.hL a hf).1;have e1:=F.DJ hu;have e2:=F.claim (x:=c) hf
 have k:(dj E 16 a ((pe - 1) % 18446744073709551616)).length<=1000:=by
  rw[e1];exact Nat.le_trans (List.length_filter_le _ _) hC
 have t:=j9 (x0:=0) (z0:=0) (x1:=0) (z1:=0) (x2:=0) (z2:=0) (x3:=0) (z3:=0) (x4:=0) (z4:=0) (rt:=rt) (tk:=tk) (un:=un) (jl:=jl) (bo:=bo) (a0:=a0) (n0:=n0) (c0:=c0) (a1:=a1) (n1:=n1) (c1:=c1) (a2:=a2) (n2:=n2) (c2:=c2) (a3:=a3) (n3:=n3) (c3:=c3) (a4:=a4) (n4:=n4) (c4:=c4) h ⟨by decide,by decide⟩ j m5 (F.frm8 hu F.ul) d k (by omega) f;rw[e1,e2] at t;exact t
theorem CW{k:Int}(h:k<=1000000 * 18446744073709551616 ^ 4):k < LIM:=by
 have:(1000000 * 18446744073709551616 ^ 4:Int) < LIM:=by unfold LIM; decide +kernel
 omega
end
end Fo
end
section
namespace Fo
open Go.RowKit Go.Lib Pg Lim Gl Kv Bk Pw
attribute [local go_sem] Oper.semAt_some
set_option linter.unusedVariables false
set_option linter.unusedSimpArgs false
section
variable {ns cc zz:Nat->Nat}{i cnt cp pb po:Nat}{w V:World}{ao a0 a1 a2 a3:Option Addr}{aa:Nat->Option Addr}{xs x:Nat->Int}{K:Nat->Prop}{tk:Int}{W:List aD}{R:Int->Int}{L:List Int}
theorem all_up(h:∀ j,j < i->ns j<=4)(hi:ns i<=4):∀ j,j < i + 1->ns j<=4:=fun j hj=>by
 rcases Nat.lt_or_ge j i with q | q
 ·exact h j q
 ·obtain rfl:j=i:=by omega
  exact hi
theorem oE(f:gQ w ao cnt pb po aa ns cc xs):Calls Tryz.prog 29 #[.slice ao cnt cp] w fun e w'=>∃ b:Bool,e=.returned (.bool b)/\(b=true->cnt<=20/\∀ i,i < cnt->ns i<=4)/\Below w.heap.size w w':=by
 have d:=Below.refl w.heap.size w;refine aM (n:=24) Tryz.func29 rfl (by kernel_rfl) (by kernel_rfl) ?_
 have k:=f.few.1;refine ax (aA (t 2 (.bool false) ?_));refine ay (ah (ax (ax (aA (t 3 (.int .i64 0) ?_)))));refine ay (ah (fA (oS (fun s=>cnt - s) (fun(s:Nat)=>[(0,.slice ao cnt cp),(3,.int .i64 (s:Int))]) (fun s w'=>(s<=cnt/\∀ j,j < s->ns j<=4)/\Below w.heap.size w w') (0:Nat) ⟨⟨Nat.zero_le _,fun _ h=>absurd h (Nat.not_lt_zero _)⟩,d⟩ (by kernel_rfl) ?_)));clear d;rintro i v1 ⟨⟨hi,c⟩,d⟩;refine ax (ax (aA (t 4 (.int .i64 (i:Int)) ?_)));refine t 5 (.slice ao cnt cp) ?_
 refine t 6 (.int .i64 ((cnt:Nat):Int)) ?_
 by_cases ci:(i:Int) < ((cnt:Nat):Int)
 ·have a:i < cnt:=by omega
  refine tq 7 (.bool (decide ((i:Int) < ((cnt:Nat):Int)))) (.bool true) (congrArg Value.bool (decide_eq_true ci)) ?_
  refine t 8 (.bool true) ?_
  refine t 9 (.int .i64 (i:Int)) ?_
  by_cases c2:(i:Int)<=20
  ·refine tq 10 (.bool (decide ((i:Int)<=20))) (.bool true) (congrArg Value.bool (decide_eq_true c2)) ?_
   refine t 11 (.bool true) ?_
   refine ay (ah (eA ?_));refine bX (ah (ax (fA (ax (aA (t 14 (.slice ao cnt cp) ?_))))));refine t 15 (.int .i64 (i:Int)) ?_
   refine tr 16 (pq pb (po + i * 1)) (vp 1 pb po cnt cp i a f.ptr) ?_
   refine t 17 (pq pb (po + i * 1)) ?_
   refine tr 18 (.slice (aa i) (ns i) (cc i)) (DI (zh d (f.cell i a))) ?_
   refine t 19 (.int .i64 ((ns i:Nat):Int)) ?_
   by_cases l:(4:Int) < ((ns i:Nat):Int)
   ·refine tq 20 (.bool (decide ((4:Int) < ((ns i:Nat):Int)))) (.bool true) (congrArg Value.bool (decide_eq_true l)) ?_
    refine ay (ah (aT [(0,.slice ao cnt cp),(3,.int .i64 (i:Int)),(4,.int .i64 (i:Int)),(5,.slice ao cnt cp),(6,.int .i64 ((cnt:Nat):Int)),(7,.bool true),(8,.bool true),(9,.int .i64 (i:Int)),(10,.bool true),(11,.bool true),(14,.slice ao cnt cp),(15,.int .i64 (i:Int)),(16,pq pb (po + i * 1)),(17,pq pb (po + i * 1)),(18,.slice (aa i) (ns i) (cc i)),(19,.int .i64 ((ns i:Nat):Int)),(20,.bool true)] (by kernel_rfl) ?_));refine eA ?_
    refine ax (aA (t 2 (.bool false) ?_));refine ay (ah (aP (DX (jI (jI (DX (jI (aQ (.bool false) (rs1 2 (by kernel_rfl) (by kernel_rfl)) ?_))))))));exact⟨false,rfl,(fun h=>by cases h),d⟩
   ·refine tq 20 (.bool (decide ((4:Int) < ((ns i:Nat):Int)))) (.bool false) (congrArg Value.bool (decide_eq_false l)) ?_
    refine ay (ah (aT [(0,.slice ao cnt cp),(3,.int .i64 (i:Int)),(4,.int .i64 (i:Int)),(5,.slice ao cnt cp),(6,.int .i64 ((cnt:Nat):Int)),(7,.bool true),(8,.bool true),(9,.int .i64 (i:Int)),(10,.bool true),(11,.bool true),(14,.slice ao cnt cp),(15,.int .i64 (i:Int)),(16,pq pb (po + i * 1)),(17,pq pb (po + i * 1)),(18,.slice (aa i) (ns i) (cc i)),(19,.int .i64 ((ns i:Nat):Int)),(20,.bool false)] (by kernel_rfl) ?_));refine dR ?_
    refine bX (uY (ah (aA (t 12 (.int .i64 (i:Int)) ?_))));refine tq 13 (.int .i64 (IntKind.i64.wrap ((i:Int) + 1))) (.int .i64 ((i:Int) + 1)) (wi (by omega)) ?_
    refine t 3 (.int .i64 ((i:Int) + 1)) ?_
    refine ay ?_
    exact lM (i + 1) (by show cnt - (i + 1) < cnt - i; omega) ⟨⟨a,all_up c (by omega)⟩,d⟩ (by kernel_rfl)
  ·refine tq 10 (.bool (decide ((i:Int)<=20))) (.bool false) (congrArg Value.bool (decide_eq_false c2)) ?_
   refine t 11 (.bool false) ?_
   refine ay (ah (dR ?_));refine lF (kP (kP (uV (ah (ax (aA (t 21 (.slice ao cnt cp) ?_)))))));refine t 22 (.int .i64 ((cnt:Nat):Int)) ?_
   by_cases m:((cnt:Nat):Int)<=20
   ·refine tq 23 (.bool (decide (((cnt:Nat):Int)<=20))) (.bool true) (congrArg Value.bool (decide_eq_true m)) ?_
    refine t 2 (.bool true) ?_
    refine ay (ah (aT [(2,.bool true)] (by kernel_rfl) ?_));refine aP (aQ (.bool true) (rs1 2 (by kernel_rfl) (by kernel_rfl)) ?_);exact⟨true,rfl,fun _=>⟨by omega,fun j o=>c j (by omega)⟩,d⟩
   ·refine tq 23 (.bool (decide (((cnt:Nat):Int)<=20))) (.bool false) (congrArg Value.bool (decide_eq_false m)) ?_
    refine t 2 (.bool false) ?_
    refine ay (ah (aT [(2,.bool false)] (by kernel_rfl) ?_));refine aP (aQ (.bool false) (rs1 2 (by kernel_rfl) (by kernel_rfl)) ?_);exact⟨false,rfl,(fun h=>by cases h),d⟩
 ·refine tq 7 (.bool (decide ((i:Int) < ((cnt:Nat):Int)))) (.bool false) (congrArg Value.bool (decide_eq_false ci)) ?_
  refine t 8 (.bool false) ?_
  refine tn 9 ?_
  refine tn 10 ?_
  refine t 11 (.bool false) ?_
  refine ay (ah (dR ?_));refine lF (kP (kP (uV (ah (ax (aA (t 21 (.slice ao cnt cp) ?_)))))));refine t 22 (.int .i64 ((cnt:Nat):Int)) ?_
  by_cases g:((cnt:Nat):Int)<=20
  ·refine tq 23 (.bool (decide (((cnt:Nat):Int)<=20))) (.bool true) (congrArg Value.bool (decide_eq_true g)) ?_
   refine t 2 (.bool true) ?_
   refine ay (ah (aT [(2,.bool true)] (by kernel_rfl) ?_));refine aP (aQ (.bool true) (rs1 2 (by kernel_rfl) (by kernel_rfl)) ?_);exact⟨true,rfl,fun _=>⟨by omega,fun j o=>c j (by omega)⟩,d⟩
  ·refine tq 23 (.bool (decide (((cnt:Nat):Int)<=20))) (.bool false) (congrArg Value.bool (decide_eq_false g)) ?_
   refine t 2 (.bool false) ?_
   refine ay (ah (aT [(2,.bool false)] (by kernel_rfl) ?_));refine aP (aQ (.bool false) (rs1 2 (by kernel_rfl) (by kernel_rfl)) ?_);exact⟨false,rfl,(fun h=>by cases h),d⟩
structure DcK(w:World)(K:Nat->Prop)(ao:Option Addr)(cnt pb po:Nat)(aa:Nat->Option Addr)(ns cc zz:Nat->Nat)(xs:Nat->Int):Prop where
 ptr:0 < cnt->ao=some ⟨pb,po,none⟩
 cell:∀ i,i < cnt->w.cell? ⟨pb,po + i * 1,none⟩=some (.slice (aa i) (ns i) (cc i))
 out:¬ K pb
 nat:∀ i,i < cnt->Nk w K (zz i) (aa i) (ns i) (cc i) (xs i)
 few:cnt<=20/\∀ i,i < cnt->ns i<=4
theorem DcK.at(D:DcK w K ao cnt pb po aa ns cc zz xs)(C:Chg K w V)(hi:i < cnt):V.cell? ⟨pb,po + i * 1,none⟩=some (.slice (aa i) (ns i) (cc i)):=by
 have h:=D.cell i hi;rw[World.cell?_of_block (w:=w) (C.same pb (aI h) D.out)];exact h
theorem gQ.k(D:gQ w ao cnt pb po aa ns cc xs)(hs:cnt<=20/\∀ i,i < cnt->ns i<=4)(B:Below w.heap.size w V)(d:∀ b,K b->w.heap.size<=b){x:Nat}(hx:¬ K x):∃ pb zz,DcK V K ao cnt pb po aa ns cc zz xs:=by
 have e:∀ i,∃ z,i < cnt->Nk V K z (aa i) (ns i) (cc i) (xs i):=fun i=>by
  by_cases hi:i < cnt
  ·obtain⟨z,a⟩:=nk_nat (D.nat i hi);exact⟨z,fun _=>nk_out a B d⟩
  ·exact⟨0,fun h=>absurd h hi⟩
 obtain⟨zz,a⟩:=Classical.skolem.1 e;rcases Nat.eq_zero_or_pos cnt with c | c
 ·subst c;exact⟨x,zz,fun h=>by omega,fun i hi=>by omega,hx,fun i hi=>by omega,hs⟩
 ·exact⟨pb,zz,D.ptr,fun i hi=>zh B (D.cell i hi),fun h=>by have:=d _ h; have:=aI (D.cell 0 c); omega,fun i hi=>a i hi,hs⟩
theorem uz{n M:Int}(hn:0<=n){k:Nat}(hx:∀ i,i < k->0<=x i/\x i<=M):∀ i,i<=k->0<=sQ n x i/\sQ n x i<=(i:Int) * M
 | 0,_=>by simp[sQ]
 | i + 1,hi=>by
  obtain⟨h1,h2⟩:=uz hn hx i (by omega);obtain⟨g1,g2⟩:=hx i (by omega);have d1:=Int.ediv_nonneg g1 hn;have d2:=Int.ediv_le_self n g1;unfold sQ;rw[show (((i + 1:Nat):Int))=(i:Int) + 1 by omega,Int.add_mul,Int.one_mul];exact⟨by omega,by omega⟩
theorem zo{x:Int}(h:0<=x):(if tk=0 then gS 0 x else 0)=0:=by
 unfold gS;split
 ·split<;>omega
 ·rfl
structure PyS where
 K:Nat->Prop
 E:aD
 R:Int->Int
 n:Nat
 N:Nat
 b0:Option Addr
 k0:Nat
 d0:Nat
 y0:Nat
 b1:Option Addr
 k1:Nat
 d1:Nat
 y1:Nat
 b2:Option Addr
 k2:Nat
 d2:Nat
 y2:Nat
 b3:Option Addr
 k3:Nat
 d3:Nat
 y3:Nat
 i:Nat
structure PayE(B:Nat)(w:World)(K:Nat->Prop)(g:Nat)(W:List aD)(n N:Nat)(tk la:Int)(R:Int->Int)(L:List Int)(C:List (Int × Int × Int))(cnt:Nat)(sq x0:Int)(n0 z0 n1 z1 n2 z2 n3 z3:Nat)(e:Ending)(w':World):Prop where
 ex:∃ b0 k0 d0 y0 b1 k1 d1 y1 b2 k2 d2 y2 b3 k3 d3 y3 K' n' N' E' R',e=.returned (.agg #[.int .u64 0,.int .u64 tk,.slice b0 k0 d0,.bool false,.int .u64 0,.bool false,.int .u64 (la + cnt + 1),.slice b1 k1 d1,.slice b2 k2 d2,.slice b3 k3 d3])/\Sx B w' K' g E' W n' N'/\n'<=n + 20 * cnt/\N'<=N + 20 * cnt/\(∀ b,K' b->K b\/w.heap.size<=b)/\Chg K w w'/\(Nq w' K' y0 b0 k0 d0 x0/\k0<=n0 + cnt/\Fr k0 w.heap.size y0 z0 n0)/\(Nq w' K' y1 b1 k1 d1 0/\k1<=n1 + cnt/\Fr k1 w.heap.size y1 z1 n1)/\(Nq w' K' y2 b2 k2 d2 0/\k2<=n2 + cnt/\Fr k2 w.heap.size y2 z2 n2)/\(Nq w' K' y3 b3 k3 d3 0/\k3<=n3 + cnt/\Fr k3 w.heap.size y3 z3 n3)/\Fs E' 16 (la + cnt) R' L C/\(∀ p,p<=la->R' p=R p)/\R' (la + cnt)=R la + sq
theorem uJ{B:Nat}{g:Nat}{E:aD}{n N:Nat}{la x0:Int}{C:List (Int × Int × Int)}{n0 c0 z0:Nat}{n1 c1 z1:Nat}{n2 c2 z2:Nat}{n3 c3 z3:Nat}(h:Sx B w K g E W n N)(F:Fs E 16 la R L C)(y:0<=tk/\tk < 18446744073709551616)(Q:Nq w K z0 a0 n0 c0 x0)(m0:n0<=10000)(X:Nq w K z1 a1 n1 c1 0)(m1:n1<=10000)(Z:Nq w K z2 a2 n2 c2 0)(m2:n2<=10000)(V:Nq w K z3 a3 n3 c3 0)(m3:n3<=10000)(D:DcK w K ao cnt pb po aa ns cc zz xs)(A:∀ i,i < cnt->0<=xs i/\xs i<=18446744073709551616 ^ 4)(hl:la<=1000000)(hRl:R la<=400000 * 18446744073709551616 ^ 4)(hn:n<=1000000000000000000)(hN:N + 10000<=100000000):Calls Tryz.prog 32 #[pg g,.agg #[.int .u64 0,.int .u64 tk,.slice a0 n0 c0,.bool false,.int .u64 0,.bool false,.int .u64 (la + 1),.slice a1 n1 c1,.slice a2 n2 c2,.slice a3 n3 c3],.slice ao cnt cp] w (PayE B w K g W n N tk la R L C cnt (sQ tk xs cnt) x0 n0 z0 n1 z1 n2 z2 n3 z3):=by
 have hla:=F.ul;have hcn:=D.few.1
 have L:∀ p∈([]:List Bx),p.1 < 0:=fun _ h=>(List.not_mem_nil h).elim
 have U:=((((vd h).add L V (.inr (Nat.zero_le _))).add L Z (.inr (Nat.zero_le _))).add L X (.inr (Nat.zero_le _))).add L Q (.inr (Nat.zero_le _));clear L;refine aM (n:=26) Tryz.func32 rfl (by kernel_rfl) (by kernel_rfl) ?_
 refine ax (aA (ta 4 [.int .u64 0,.int .u64 tk,.slice a0 n0 c0,.bool false,.int .u64 0,.bool false,.int .u64 (la + 1),.slice a1 n1 c1,.slice a2 n2 c2,.slice a3 n3 c3] 39 (pg) ?_));intro v1 g2 G M B;replace U:=U.new G M B;clear G M B;refine ta 6 [.int .u64 0,.int .u64 0,.slice none 0 0,.bool false,.int .u64 0,.bool false,.int .u64 0,.slice none 0 0,.slice none 0 0,.slice none 0 0] 39 (pg) ?_
 intro v3 g4 H J B;replace U:=U.new H J B;clear H J B;refine ay (ah (ax (ax (aA (t 7 (.int .i64 0) ?_)))));refine ay (ah (fA (oS (fun(s:PyS)=>cnt - s.i) (fun(s:PyS)=>[(0,pg g),(2,.slice ao cnt cp),(4,pg g2),(6,pg g4),(7,.int .i64 (s.i:Int))]) (fun(s:PyS) w'=>(s.i<=cnt/\s.n<=n + 20 * s.i/\s.N<=N + 20 * s.i)/\Ut w K B g W w' s.K s.E s.n s.N [(g2,[.int .u64 0,.int .u64 tk,.slice s.b0 s.k0 s.d0,.bool false,.int .u64 0,.bool false,.int .u64 (la + s.i + 1),.slice s.b1 s.k1 s.d1,.slice s.b2 s.k2 s.d2,.slice s.b3 s.k3 s.d3],39),(g4,[.int .u64 0,.int .u64 0,.slice none 0 0,.bool false,.int .u64 0,.bool false,.int .u64 0,.slice none 0 0,.slice none 0 0,.slice none 0 0],39)] [(s.y0,s.b0,s.k0,s.d0,x0),(s.y1,s.b1,s.k1,s.d1,0),(s.y2,s.b2,s.k2,s.d2,0),(s.y3,s.b3,s.k3,s.d3,0)]/\(s.k0<=n0 + s.i/\Fr s.k0 w.heap.size s.y0 z0 n0)/\(s.k1<=n1 + s.i/\Fr s.k1 w.heap.size s.y1 z1 n1)/\(s.k2<=n2 + s.i/\Fr s.k2 w.heap.size s.y2 z2 n2)/\(s.k3<=n3 + s.i/\Fr s.k3 w.heap.size s.y3 z3 n3)/\Fs s.E 16 (la + s.i) s.R L C/\(∀ p,p<=la->s.R p=R p)/\s.R (la + s.i)=R la + sQ tk xs s.i) (⟨K,E,R,n,N,a0,n0,c0,z0,a1,n1,c1,z1,a2,n2,c2,z2,a3,n3,c3,z3,0⟩:PyS) ⟨⟨Nat.zero_le _,by (try dsimp only); omega,by (try dsimp only); omega⟩,by simpa using U.sel [1,0] [0,1,2,3],⟨Nat.le_refl _,.inr (.inr ⟨rfl,rfl⟩)⟩,⟨Nat.le_refl _,.inr (.inr ⟨rfl,rfl⟩)⟩,⟨Nat.le_refl _,.inr (.inr ⟨rfl,rfl⟩)⟩,⟨Nat.le_refl _,.inr (.inr ⟨rfl,rfl⟩)⟩,by simpa using F,fun _ _=>rfl,by show R (la + (0:Nat))=R la + 0; simp⟩ (by kernel_rfl) ?_)));clear U;rintro⟨K',E',x,n',N',b0,k0,d0,y0,b1,k1,d1,y1,b2,k2,d2,y2,b3,k3,d3,y3,i⟩ v5 ⟨⟨hi,hn',hN'⟩,U,⟨m0',fr0⟩,⟨m1',fr1⟩,⟨m2',fr2⟩,⟨m3',fr3⟩,FQ,o,rl⟩;dsimp only at *;refine ax (ax (aA (t 8 (.int .i64 (i:Int)) ?_)));refine t 9 (.slice ao cnt cp) ?_
 refine t 10 (.int .i64 ((cnt:Nat):Int)) ?_
 by_cases ci:(i:Int) < ((cnt:Nat):Int)
 ·have d:i < cnt:=by omega
  have hs4:=D.few.2 i d;have O:=A i d;have hdv:=Int.ediv_nonneg O.1 y.1;have bd1:=uz y.1 A (i + 1) d
  have sqi:sQ tk xs (i + 1)=sQ tk xs i + xs i / tk:=rfl
  have z:x (la + i) + xs i / tk < LIM:=by
   have h9:((i + 1:Nat):Int) * 18446744073709551616 ^ 4<=100 * 18446744073709551616 ^ 4:=Int.mul_le_mul_of_nonneg_right (by omega) (by decide);refine CW ?_
   omega
  have F2:=FQ.close (tk:=tk) (cur:=xs i) (by omega) hdv z
  have v:∀ p,p<=la->upd x (la + i + 1) (x (la + i) + xs i / tk) p=R p:=fun p hp=>by
   unfold upd;rw[if_neg (by omega)];exact o p hp
  have rl':upd x (la + i + 1) (x (la + i) + xs i / tk) (la + ((i + 1:Nat):Int))=R la + sQ tk xs (i + 1):=by
   unfold upd;rw[if_pos (by omega)];omega
  refine tq 11 (.bool (decide ((i:Int) < ((cnt:Nat):Int)))) (.bool true) (congrArg Value.bool (decide_eq_true ci)) ?_
  refine ay (ah (eA ?_));refine bX (ah (ax (fA (ax (aA (t 14 (.slice ao cnt cp) ?_))))));refine t 15 (.int .i64 (i:Int)) ?_
  refine tr 16 (pq pb (po + i * 1)) (vp 1 pb po cnt cp i d D.ptr) ?_
  refine tr 17 (.agg #[.slice (aa i) (ns i) (cc i)]) (Cf (D.at U.ta.cc d)) ?_
  refine t 18 (pq g2 7) ?_
  refine ts (U.bk 0 rfl) 7 (.agg #[.slice (aa i) (ns i) (cc i)]) [.slice (aa i) (ns i) (cc i)] [.int .u64 0,.int .u64 tk,.slice b0 k0 d0,.bool false,.int .u64 0,.bool false,.int .u64 (la + i + 1),.slice (aa i) (ns i) (cc i),.slice b2 k2 d2,.slice b3 k3 d3] ?_
  intro v6 Y C;replace U:=U.put 0 rfl C Y (by decide);clear Y C;refine ay (ah (aA (t 20 (pg g) ?_)));refine tlr 21 [.int .u64 0,.int .u64 tk,.slice b0 k0 d0,.bool false,.int .u64 0,.bool false,.int .u64 (la + i + 1),.slice (aa i) (ns i) (cc i),.slice b2 k2 d2,.slice b3 k3 d3] (U.bk 0 rfl) 0 ?_
  refine tc 22 22 #[pg g,.int .u64 16,.agg #[.int .u64 0,.int .u64 tk,.slice b0 k0 d0,.bool false,.int .u64 0,.bool false,.int .u64 (la + i + 1),.slice (aa i) (ns i) (cc i),.slice b2 k2 d2,.slice b3 k3 d3]] (ClE.cast (E':=eV E' 16 (la + i + 1) tk (xs i)) (pq:=la + i + 1 + 1) (iA U.ta.sx (id:=16) ⟨by decide,by decide⟩ y (U.nq 0 rfl).nk (by omega) ((D.nat i d).op U.ta.km U.ta.cc) (by omega) (U.nq 2 rfl).nk (by omega) (U.nq 3 rfl).nk (by omega) (by omega) (by omega)) (by omega) rfl) ?_
  rintro _ v14 ⟨f,m,e,zq7,r,u,q,zq8,k,j,l,zq9,a,b,c,P,K11,n12,N13,rfl,S,qn12,qN13,hK,hC,Q,mq7,h0,X,mq8,h1,Z,mq9,h2,V,mq10,h3⟩;refine⟨_,rfl,?_⟩;have L:=U.lt;have fq7:=ne3 h0 U.ta.size;have fq8:=ne3 h1 U.ta.size;have fq9:=ne3 h2 U.ta.size;have I:=ne3 h3 U.ta.size;replace U:=((((U.op S hK hC).add L Q h0).add L X h1).add L Z h2).add L V h3;clear L S hK hC Q h0 X h1 Z h2 V h3;replace U:=U.val 1 rfl (zo O.1);refine t 19 (.tuple #[.agg #[.int .u64 0,.int .u64 tk,.slice f m e,.bool false,.int .u64 0,.bool false,.int .u64 (la + i + 1 + 1),.slice none 0 0,.slice k j l,.slice a b c],.agg #[.slice r u q]]) ?_
  refine t 23 (.agg #[.int .u64 0,.int .u64 tk,.slice f m e,.bool false,.int .u64 0,.bool false,.int .u64 (la + i + 1 + 1),.slice none 0 0,.slice k j l,.slice a b c]) ?_
  refine t 24 (.agg #[.slice r u q]) ?_
  refine ts (U.bk 0 rfl) 0 (.agg #[.int .u64 0,.int .u64 tk,.slice f m e,.bool false,.int .u64 0,.bool false,.int .u64 (la + i + 1 + 1),.slice none 0 0,.slice k j l,.slice a b c]) [.int .u64 0,.int .u64 tk,.slice f m e,.bool false,.int .u64 0,.bool false,.int .u64 (la + i + 1 + 1),.slice none 0 0,.slice k j l,.slice a b c] [.int .u64 0,.int .u64 tk,.slice f m e,.bool false,.int .u64 0,.bool false,.int .u64 (la + i + 1 + 1),.slice none 0 0,.slice k j l,.slice a b c] ?_
  intro v15 Y C;replace U:=U.put 0 rfl C Y (by decide);clear Y C;refine ay (uY (ah (aT [(0,pg g),(2,.slice ao cnt cp),(4,pg g2),(6,pg g4),(7,.int .i64 (i:Int)),(8,.int .i64 (i:Int)),(9,.slice ao cnt cp),(10,.int .i64 ((cnt:Nat):Int)),(11,.bool true),(14,.slice ao cnt cp),(15,.int .i64 (i:Int)),(16,pq pb (po + i * 1)),(17,.agg #[.slice (aa i) (ns i) (cc i)]),(18,pq g2 7),(19,.tuple #[.agg #[.int .u64 0,.int .u64 tk,.slice f m e,.bool false,.int .u64 0,.bool false,.int .u64 (la + i + 1 + 1),.slice none 0 0,.slice k j l,.slice a b c],.agg #[.slice r u q]]),(20,pg g),(21,.agg #[.int .u64 0,.int .u64 tk,.slice b0 k0 d0,.bool false,.int .u64 0,.bool false,.int .u64 (la + i + 1),.slice (aa i) (ns i) (cc i),.slice b2 k2 d2,.slice b3 k3 d3]),(22,.tuple #[.agg #[.int .u64 0,.int .u64 tk,.slice f m e,.bool false,.int .u64 0,.bool false,.int .u64 (la + i + 1 + 1),.slice none 0 0,.slice k j l,.slice a b c],.agg #[.slice r u q]]),(23,.agg #[.int .u64 0,.int .u64 tk,.slice f m e,.bool false,.int .u64 0,.bool false,.int .u64 (la + i + 1 + 1),.slice none 0 0,.slice k j l,.slice a b c])] (by kernel_rfl) ?_)));refine aA (t 12 (.int .i64 (i:Int)) ?_);refine tq 13 (.int .i64 (IntKind.i64.wrap ((i:Int) + 1))) (.int .i64 ((i:Int) + 1)) (wi (by omega)) ?_
  refine t 7 (.int .i64 ((i:Int) + 1)) ?_
  refine ay ?_
  replace U:=U.add U.lt (cJ _ _) (.inl rfl)
  have hpe:la + ((i + 1:Nat):Int) + 1=la + i + 1 + 1:=by omega
  have hpf:la + ((i + 1:Nat):Int)=la + i + 1:=by omega
  exact lM (⟨K11,eV E' 16 (la + i + 1) tk (xs i),upd x (la + i + 1) (x (la + i) + xs i / tk),n12,N13,f,m,e,zq7,none,0,0,0,k,j,l,zq9,a,b,c,P,(i + 1)⟩:PyS) (by show cnt - (i + 1) < cnt - i; omega) ⟨⟨d,by (try dsimp only); omega,by (try dsimp only); omega⟩,by rw[hpe]; exact U.sel [0,1] [4,0,2,1],⟨by (try dsimp only); omega,fq7.imp_right .inl⟩,⟨Nat.zero_le _,.inl rfl⟩,⟨by (try dsimp only); omega,fq9.imp_right .inl⟩,⟨by (try dsimp only); omega,I.imp_right .inl⟩,by rw[hpf]; exact F2,v,rl'⟩ (by kernel_rfl)
 ·refine tq 11 (.bool (decide ((i:Int) < ((cnt:Nat):Int)))) (.bool false) (congrArg Value.bool (decide_eq_false ci)) ?_
  refine ay (ah (dR ?_));refine lF (kP (kP (uV (ah (ax (aA (tlr 25 [.int .u64 0,.int .u64 tk,.slice b0 k0 d0,.bool false,.int .u64 0,.bool false,.int .u64 (la + i + 1),.slice b1 k1 d1,.slice b2 k2 d2,.slice b3 k3 d3] (U.bk 0 rfl) 0 ?_)))))));refine ts (U.bk 1 rfl) 0 (.agg #[.int .u64 0,.int .u64 tk,.slice b0 k0 d0,.bool false,.int .u64 0,.bool false,.int .u64 (la + i + 1),.slice b1 k1 d1,.slice b2 k2 d2,.slice b3 k3 d3]) [.int .u64 0,.int .u64 tk,.slice b0 k0 d0,.bool false,.int .u64 0,.bool false,.int .u64 (la + i + 1),.slice b1 k1 d1,.slice b2 k2 d2,.slice b3 k3 d3] [.int .u64 0,.int .u64 tk,.slice b0 k0 d0,.bool false,.int .u64 0,.bool false,.int .u64 (la + i + 1),.slice b1 k1 d1,.slice b2 k2 d2,.slice b3 k3 d3] ?_
  intro v16 Y C;replace U:=U.put 1 rfl C Y (by decide);clear Y C;refine ay (ah (aP (aQ (.agg #[.int .u64 0,.int .u64 tk,.slice b0 k0 d0,.bool false,.int .u64 0,.bool false,.int .u64 (la + i + 1),.slice b1 k1 d1,.slice b2 k2 d2,.slice b3 k3 d3]) (rsc 6 (T:=39) (by kernel_rfl) (by kernel_rfl) (lr (U.bk 1 rfl) 0)) ?_)));obtain rfl:i=cnt:=by omega
  exact⟨_,_,_,_,_,_,_,_,_,_,_,_,_,_,_,_,_,_,_,_,_,rfl,U.ta.sx,by omega,by omega,U.ta.km,U.ta.cc,⟨U.nq 0 rfl,m0',fr0⟩,⟨U.nq 1 rfl,m1',fr1⟩,⟨U.nq 2 rfl,m2',fr2⟩,⟨U.nq 3 rfl,m3',fr3⟩,FQ,o,rl⟩
end
end Fo
end
section
namespace Fo
open Go.RowKit Go.Lib Pg Lim Gl Kv Bk Pw
attribute [local go_sem] Oper.semAt_some
set_option linter.unusedVariables false
set_option linter.unusedSimpArgs false
section
variable {w:World}{ao:Option Addr}{cnt pb po:Nat}{aa:Nat->Option Addr}{ns cc:Nat->Nat}{xs:Nat->Int}{K:Nat->Prop}
theorem gQ.keep{V:World}(D:gQ w ao cnt pb po aa ns cc xs)(B:Below w.heap.size w V):gQ V ao cnt pb po aa ns cc xs:=⟨D.ptr,fun i hi=>zh B (D.cell i hi),fun i hi=>(D.nat i hi).keep B,D.few⟩
theorem gQ.sm(D:gQ w ao cnt pb po aa ns cc xs)(hs:cnt<=20/\∀ i,i < cnt->ns i<=4):∀ i,i < cnt->0<=xs i/\xs i<=18446744073709551616 ^ 4:=fun i hi=>⟨(D.nat i hi).px,Int.le_of_lt (Int.lt_of_lt_of_le (aV.ltF (D.nat i hi)) (BN (hs.2 i hi)))⟩
theorem Un.en0{w0:World}{B g0 n N:Nat}{E:aD}{bs:List Bx}{qs:List Nx}(_h:Un w0 B g0 w K E n N bs qs):∀ p∈bs,(0:Nat)=0\/(0:Nat)≠p.1:=fun _ _=>.inl rfl
theorem yZ:U36=1000000000000000000000000000000000000:=by decide
theorem sp_lo(z S T:Int):z * S / U36 + z * T / U36<=z * (S + T) / U36:=by
 rw[Int.mul_add,yZ];generalize z * S=a;generalize z * T=b;omega
theorem sp_hi(z S T:Int):z * (S + T) / U36<=z * S / U36 + z * T / U36 + 1:=by
 rw[Int.mul_add,yZ];generalize z * S=a;generalize z * T=b;omega
end
end Fo
end
section
namespace Fo
open Go.RowKit Go.Lib Pg Lim Gl Kv Bk Pw
attribute [local go_sem] Oper.semAt_some
set_option linter.unusedVariables false
set_option linter.unusedSimpArgs false
end Fo
end
end Go.Proofs.YthfepflplbahkaaGreatDoor
