import Derived.Test.YtpoifdokmjhclaaGreatJyn
set_option maxRecDepth 100000
set_option maxHeartbeats 8000000
namespace Go.Proofs.YtpoifdokmjhclaaGreat
namespace Gn
open Go.RowKit Go.Lib Pg Lim Gl Mg
attribute [local go_sem] Oper.semAt_some
set_option linter.unusedVariables false
set_option linter.unusedSimpArgs false
section
variable {w v v':World}{g b m i k r q:Nat}{vs z cs:List Value}{x y:Int}{ops:Array Oper}{rest:List Oper}{c a:Bool}{l:List Int}
theorem xQ32{s:St}(R:RdA w g b s.1 s.2):CP 46 #[pg g] w λe w'=>∃ v s',rU 4 s=(v,s')/\(0<=v/\v < 4294967296)/\e=.returned (.int .u32 v)/\RdA w' g b s'.1 s'.2/\But g w w':=by
 refine(rdU32 R).mono ?_
 rintro e w' ⟨rfl,a,U⟩;exact⟨_,_,rfl,(mV (m:=4) rfl R.oct).1.2,rfl,a,U⟩
theorem ir{α:Type}{l:List α}(h:l.length=10):∃ a b c d e f g i j k,l=[a,b,c,d,e,f,g,i,j,k]:=by
 match l,h with
 | [a,b,c,d,e,f,g,i,j,k],_=>exact⟨a,b,c,d,e,f,g,i,j,k,rfl⟩
def cR(m i:Nat)(s:St):List Value:=((rN i s).1 ++ List.replicate (m - i) 0).map (Value.int .u64)
theorem B9{s:St}(h:i<=m):(cR m i s).length=m:=by simp only[cR,List.length_map,List.length_append,gg,List.length_replicate];omega
theorem ql(m:Nat)(s:St):cR m m s=(rN m s).1.map (Value.int .u64):=by simp[cR]
theorem eh(m i:Nat)(s:St):(cR m i s).any u8V=false:=by
 rw[List.any_eq_false];intro v hv;obtain⟨x,_,rfl⟩:=List.mem_map.1 hv;simp[u8V]
theorem uV{s:St}(h:i+k<=m)(hv:(rN k (rN i s).2).1.map (Value.int .u64)=vs):spl (cR m i s) i vs=cR m (i+k) s:=by
 subst hv
 have a:(rN i s).1.length=i:=gg i s
 have b:(rN k (rN i s).2).1.length=k:=gg k _;unfold spl cR;rw[jD];simp only[List.map_append,List.length_map,b];rw[List.take_left' (by rw[List.length_map,a]),List.drop_append,List.drop_of_length_le (by rw[List.length_map,a];omega),List.length_map,a,List.nil_append,show i+k - i=k by omega,List.map_replicate,List.map_replicate,List.drop_replicate,show m - i - k=m - (i+k) by omega]
theorem uW{s:St}(h:i+k<=m)(hv:vs.length=k):Nat.ble (i+vs.length) (cR m i s).length=true:=by
 rw[B9 (by omega),hv];exact Nat.ble_eq_true_of_le h
theorem rN1{s s':St}{v:Int}(e:rU 8 s=(v,s')):rN 1 s=([v],s'):=by simp only[rN,e]
theorem rN2{s s1 s2:St}(e:rU 8 s=(x,s1))(e1:rU 8 s1=(y,s2)):rN 2 s=([x,y],s2):=by simp only[rN,e,e1]
theorem rN3{s s1 s2 s3:St}{z:Int}(e:rU 8 s=(x,s1))(e1:rU 8 s1=(y,s2))(e2:rU 8 s2=(z,s3)):rN 3 s=([x,y,z],s3):=by simp only[rN,e,e1,e2]
abbrev Rq(r q:Nat):Nat->Prop:=λx=>x=r\/x=q
theorem chgU{w':World}(U:But g w w'):Chg (·=g) w w':=⟨U.os,U.tape,U.output,U.size,λb hb hn=>U.block b hb hn⟩
theorem vB(C:Chg (Rq r q) w v)(B:BW v v'):Chg (Rq r q) w v':=C.trans (Chg.of (F:=λ_=>False) B) (λ_ _ h=>h.elim)
theorem vU(C:Chg (Rq r q) w v)(U:But q v v'):Chg (Rq r q) w v':=C.trans (chgU U) (λ_ _ h=>.inr h)
theorem vR(C:Chg (Rq r q) w v)(U:Chg (·=r) v v'):Chg (Rq r q) w v':=C.trans U (λ_ _ h=>.inl h)
theorem vN(C:Chg (Rq r q) w v)(U:Chg (·=g) v v')(hg:w.heap.size<=g):Chg (Rq r q) w v':=C.trans U (λb hb h=>by have h':b=g:=h;omega)
theorem vBl{w0:World}(B:BW w0 w)(C:Chg (Rq r q) w v)(hr:w0.heap.size<=r:=by omega)(hq:w0.heap.size<=q:=by omega):BW w0 v:=B.trans (C.below (λb hb=>by rcases hb with h | h<;>omega) B.size)
theorem bV{t:TypeId}(X:Blk w g cs t)(C:Chg (Rq r q) w v)(h:g≠r/\g≠q):Blk v g cs t:=X.chg C (λe=>e.elim h.1 h.2)
theorem made64(b:∀ v∈z,v=.int .u64 0)(h0:0 < z.length)(n:Nat):madeCells z.toArray n=(cR n 0 (0,[])).toArray:=by
 apply Array.ext
 ·rw[size_madeCells,List.size_toArray,B9 (Nat.zero_le _)]
 intro j d c
 have a:j % z.length < z.length:=Nat.mod_lt _ h0;simp only[madeCells,cR,rN,List.nil_append,Nat.sub_zero,List.map_replicate,List.getElem_toArray,List.getElem_replicate,Array.getElem_map,Array.getElem_range,List.size_toArray];rw[List.getElem!_toArray,List.getElem!_eq_getElem?_getD,List.getElem?_eq_getElem a,Option.getD_some];exact b _ (List.getElem_mem _)
theorem GU{n:Nat}{ds:List Deferred}{o:Oper}{l:Fr}{Q:Exit->Act->World->Prop}(d m k:Nat)(z:List Value)(T E:TypeId)(hm:m<=1000000)(ht:Tryz.prog.underlying T=some (.slice E))(hi:(Tryz.prog.info? E).map (λi=>(i.zero,i.size,decide (i.bytes<=1000)))=some (some (.agg z.toArray),k,true))(h:∀ w1 g,Blk w1 g (cR (m * k) 0 (0,[])) E->w.heap.size<=g->BW w w1->GL Tryz.prog n ds ops Q rest ((d,.slice (some ⟨g,0,none⟩) m m) :: l) w1)(j:∀ v∈z,v=iU 0:=by simp)(h0:0 < z.length:=by decide)(ho:∃ x,o.op=.makeSlice T x x/\evL l x=.int .u32 (m:Int):=by exact⟨_,rfl,by kernel_rfl⟩)(p:gd ops l o=some true:=by kernel_rfl)(hc:chk n l o (some d)=true:=by kernel_rfl):GL Tryz.prog n ds ops Q (o :: rest) l w:=by
 obtain⟨x,q,f⟩:=ho
 cases hq:Tryz.prog.info? E with
 | none=>rw[hq] at hi;cases hi
 | some i =>
  rw[hq] at hi;simp only[Option.map_some,Option.some.injEq,Prod.mk.injEq,decide_eq_true_eq] at hi;obtain⟨i1,i2,i3⟩:=hi;have e:=run_make (P:=Tryz.prog) w T E i _ ht hq i1 .u32 .u32 (m:Int) (m:Int) (by omega) (by omega) (by have:=Int.mul_le_mul (a:=(i.bytes:Int)) (b:=(m:Int)) (c:=1000) (d:=1000000) (by omega) (by omega) (by omega) (by omega);omega) (by omega);refine fH (some d) (.slice (some ⟨w.heap.size,0,none⟩) m m) p hc ?_ (h (w.alloc (.cells (cR (m * k) 0 (0,[])).toArray E)) _ (ay w _ E) (Nat.le_refl _) (aa w _));simp only[execOp,q,f];rw[i2,show (Value.agg z.toArray).cells=z.toArray from rfl,made64 j h0,Int.toNat_natCast] at e;simp[e,Result.andThen]
theorem zh(X:Blk w r [pg q,bT] 108):CP 45 #[pg r,.bool c] w λe w'=>e=.returned (.tuple #[])/\Blk w' r [pg q,bT] 108/\Chg (· = r) w w':=by
 have a:Chg (·=r) w w:=Chg.refl _ _;refine af (n:=14) Tryz.func45 rfl ?_
 refine aN<|tz 4<|tl 8 (.bool true) X 1<|tz 1<|tn 10<|tz 3<|ts X 1 (.bool true) [.bool true] [pg q,.bool true] ?_
 intro v1 Y C;have a:=a.trans C (λ_ _ h=>h);have X:=Y;refine aO<|bh (.tuple #[]) (rs0) ?_
 exact⟨rfl,X,a⟩
theorem Cz(X:Blk w r [pg q,bF] 108):CP 45 #[pg r,.bool c] w λe w'=>e=.returned (.tuple #[])/\Blk w' r [pg q,.bool c] 108/\Chg (· = r) w w':=by
 have a:Chg (·=r) w w:=Chg.refl _ _;refine af (n:=14) Tryz.func45 rfl ?_
 refine aN<|tz 4<|tl 8 (.bool false) X 1<|tz 5<|ts X 1 (.bool c) [.bool c] [pg q,.bool c] ?_
 intro v1 Y C;have a:=a.trans C (λ_ _ h=>h);have X:=Y;refine aO<|bh (.tuple #[]) (rs0) ?_
 exact⟨rfl,X,a⟩
theorem jy(X:Blk w r [pg q,.bool a] 108):CP 45 #[pg r,.bool c] w λe w'=>e=.returned (.tuple #[])/\Blk w' r [pg q,.bool (a || c)] 108/\Chg (· = r) w w':=by
 cases a with
 | true=>exact zh X
 | false=>exact Cz X
theorem zY{s:St}(X:Blk w r [pg q,.bool a] 108)(c:RdA w q b s.1 s.2)(g:r≠q):CP 18 #[pg r] w λe w'=>∃ v s',rU 4 s=(v,s')/\e=.returned (.tuple #[])/\Blk w' r [pg q,.bool (a || (v != 1196183089))] 108/\RdA w' q b s'.1 s'.2/\Chg (Rq r q) w w':=by
 have h:=c.lt;have j:=X.lt
 have d:Chg (Rq r q) w w:=Chg.refl _ _;refine af (n:=10) Tryz.func18 rfl ?_
 refine aN<|tz 4<|tl 6 (pg q) X 0<|tc 7 46 #[pg q] (xQ32 (s:=s) c) ?_
 rintro _ o ⟨k,s2,f,l,rfl,i,U⟩;have d:=vU d U;have X:=But.blk U X (by omega);have c:=i;refine⟨_,rfl,tz 1 ?_⟩;have p:=X.lt;refine tc 9 45 #[pg r,.bool (k != 1196183089)] (jy X) ?_
 rintro _ v4 ⟨rfl,m,C⟩;have d:=vR d C;have c:=RdA.dc c X rfl (by omega) (aU C);have X:=m;refine⟨_,rfl,aO<|bh (.tuple #[]) (rs0) ?_⟩;exact⟨_,_,f,rfl,X,c,d⟩
theorem rPurse{s:St}(X:Blk w r [pg q,.bool a] 108)(d:RdA w q b s.1 s.2)(o:r≠q):CP 21 #[pg r] w λe w'=>∃ x y s',rN 2 s=([x,y],s')/\e=.returned (.agg #[iU x,iU y])/\RdA w' q b s'.1 s'.2/\But q w w':=by
 have k:=d.lt;have p:=X.lt;have f:=But.refl q w;refine af (n:=16) Tryz.func21 rfl ?_
 refine sr ?_
 have k:=d.lt;have v:=X.lt;refine ta 2 cl5 43 (pg) ?_
 intro v1 A c l B;have t:=Nat.le_trans f.size l;have f:=f.trans (But.of B);have d:=d.keep B;have X:=X.keep B;refine nx<|tz 3<|tl 6 (pg q) X 0<|tc 7 48 #[pg q] (yQ (s:=s) d) ?_
 rintro _ D ⟨g,s4,i,rfl,m,U⟩;have f:=f.trans U;have X:=But.blk U X (by omega);have c:=But.blk U c (by omega);have d:=m;refine⟨_,rfl,tz 1<|ts c 0 (.int .u64 g) [.int .u64 g] [.int .u64 g,.int .u64 0] ?_⟩;intro v6 Y C;have f:=mO f C;have d:=RdA.dc d c (by first | rfl | exact eh _ _ _) (by omega) (aU C);have X:=X.chg C (by omega);have c:=Y;refine nx<|tz 3<|tl 12 (pg q) X 0<|tc 13 48 #[pg q] (yQ (s:=s4) d) ?_
 rintro _ u ⟨h,z,j,rfl,m,U⟩;have f:=f.trans U;have X:=But.blk U X (by omega);have c:=But.blk U c (by omega);have d:=m;refine⟨_,rfl,tz 1<|ts c 1 (.int .u64 h) [.int .u64 h] [.int .u64 g,.int .u64 h] ?_⟩;intro v10 Y C;have f:=mO f C;have d:=RdA.dc d c (by first | rfl | exact eh _ _ _) (by omega) (aU C);have X:=X.chg C (by omega);have c:=Y;refine nx<|tlr 15 [.int .u64 g,.int .u64 h] c 0<|tsw c [.int .u64 g,.int .u64 h] ?_
 intro v11 Y C;have f:=mO f C;have d:=RdA.dc d c (by first | rfl | exact eh _ _ _) (by omega) (aU C);have X:=X.chg C (by omega);have c:=Y;refine nr<|ah (.agg #[.int .u64 g,.int .u64 h]) (rsc (T:=43) 2 (lr c 0)) ?_
 exact⟨_,_,_,rN2 i j,rfl,d,f⟩
theorem rFound{s:St}(X:Blk w r [pg q,.bool a] 108)(d:RdA w q b s.1 s.2)(t:r≠q):CP 23 #[pg r] w λe w'=>∃ x y u s',rN 3 s=([x,y,u],s')/\e=.returned (.agg #[iU x,iU y,iU u])/\RdA w' q b s'.1 s'.2/\But q w w':=by
 have o:=d.lt;have D:=X.lt;have f:=But.refl q w;refine af (n:=22) Tryz.func23 rfl ?_
 refine sr ?_
 have o:=d.lt;have J:=X.lt;refine ta 2 [.int .u64 0,.int .u64 0,.int .u64 0] 45 (pg) ?_
 intro v1 F c p B;have G:=Nat.le_trans f.size p;have f:=f.trans (But.of B);have d:=d.keep B;have X:=X.keep B;refine nx<|tz 3<|tl 6 (pg q) X 0<|tc 7 48 #[pg q] (yQ (s:=s) d) ?_
 rintro _ K ⟨h,s4,l,rfl,k,U⟩;have f:=f.trans U;have X:=But.blk U X (by omega);have c:=But.blk U c (by omega);have d:=k;refine⟨_,rfl,tz 1<|ts c 0 (.int .u64 h) [.int .u64 h] [.int .u64 h,.int .u64 0,.int .u64 0] ?_⟩;intro v6 Y C;have f:=mO f C;have d:=RdA.dc d c (by first | rfl | exact eh _ _ _) (by omega) (aU C);have X:=X.chg C (by omega);have c:=Y;refine nx<|tz 3<|tl 12 (pg q) X 0<|tc 13 48 #[pg q] (yQ (s:=s4) d) ?_
 rintro _ I ⟨i,E,m,rfl,k,U⟩;have f:=f.trans U;have X:=But.blk U X (by omega);have c:=But.blk U c (by omega);have d:=k;refine⟨_,rfl,tz 1<|ts c 1 (.int .u64 i) [.int .u64 i] [.int .u64 h,.int .u64 i,.int .u64 0] ?_⟩;intro v10 Y C;have f:=mO f C;have d:=RdA.dc d c (by first | rfl | exact eh _ _ _) (by omega) (aU C);have X:=X.chg C (by omega);have c:=Y;refine nx<|tz 3<|tl 18 (pg q) X 0<|tc 19 48 #[pg q] (yQ (s:=E) d) ?_
 rintro _ v ⟨g,H,j,rfl,k,U⟩;have f:=f.trans U;have X:=But.blk U X (by omega);have c:=But.blk U c (by omega);have d:=k;refine⟨_,rfl,tz 1<|ts c 2 (.int .u64 g) [.int .u64 g] [.int .u64 h,.int .u64 i,.int .u64 g] ?_⟩;intro A Y C;have f:=mO f C;have d:=RdA.dc d c (by first | rfl | exact eh _ _ _) (by omega) (aU C);have X:=X.chg C (by omega);have c:=Y;refine nt<|aA [(2,pg F)]<|sr<|tlr 21 [.int .u64 h,.int .u64 i,.int .u64 g] c 0<|tsw c [.int .u64 h,.int .u64 i,.int .u64 g] ?_
 intro z Y C;have f:=mO f C;have d:=RdA.dc d c (by first | rfl | exact eh _ _ _) (by omega) (aU C);have X:=X.chg C (by omega);have c:=Y;refine nr<|ah (.agg #[.int .u64 h,.int .u64 i,.int .u64 g]) (rsc (T:=45) 2 (lr c 0)) ?_
 exact⟨_,_,_,_,rN3 l m j,rfl,d,f⟩
theorem RdA.len{err:Int}(h:RdA w g b err l):l.length<=9223372036854775807:=by
 obtain⟨ao,n,c,X,A⟩:=h.ex;obtain⟨o,h1,h2,h3,h4,h5⟩:=A.ex;have:=h3.1;omega
theorem xz{s:St}(X:Blk w r [pg q,.bool a] 108)(c:RdA w q b s.1 s.2)(f:r≠q):CP 24 #[pg r] w λe w'=>e=.returned (.bool (decide (bS s.1 s.2=0) && !a))/\RdA w' q b (bS s.1 s.2) s.2/\But q w w':=by
 have g:=c.lt;have i:=X.lt;have d:=But.refl q w;refine af (n:=16) Tryz.func24 rfl ?_
 refine sr<|tz 1<|nx<|tz 3<|tl 6 (pg q) X 0<|tc 7 49 #[pg q] (pb c (RdA.len c)) ?_
 rintro _ v1 ⟨rfl,h,U⟩;refine⟨_,rfl,?_⟩;have d:=d.trans U;have X:=But.blk U X (by omega);have c:=h;by_cases c2:(bS s.1 s.2:Int)=0
 ·refine tq 8 (.bool ((bS s.1 s.2:Int) == 0)) (bT) (congrArg Value.bool (beq_iff_eq.2 c2))<|tz 4<|tl 13 (.bool a) X 1<|tz 3<|nt<|aA [(2,.bool (!a))]<|bB<|ah (.bool (!a)) (rs1 2) ?_
  exact⟨by rw[c2];rfl,c,d⟩
 refine tq 8 (.bool ((bS s.1 s.2:Int) == 0)) (bF) (congrArg Value.bool (beq_eq_false_iff_ne.2 c2))<|tz 1<|tn 10<|tn 11<|tn 12<|tn 13<|tn 14<|tz 2<|nt<|aA [(2,bF)]<|bB<|ah (bF) (rs1 2) ?_
 exact⟨by rw[decide_eq_false c2];rfl,c,d⟩
theorem qW{s:St}(X:Blk w r [pg q,.bool a] 108)(d:RdA w q b s.1 s.2)(u:r≠q):CP 19 #[pg r] w λe w'=>∃ x0 x1 x2 x3 x4 x5 x6 x7 x8 x9 s',rN 10 s=([x0,x1,x2,x3,x4,x5,x6,x7,x8,x9],s')/\e=.returned (.agg #[iU x0,iU x1,iU x2,iU x3,iU x4,iU x5,iU x6,iU x7,iU x8,iU x9])/\RdA w' q b s'.1 s'.2/\But q w w':=by
 have m:=d.lt;have o:=X.lt;have g:=But.refl q w;refine af (n:=18) Tryz.func19 rfl ?_
 refine sr ?_
 have m:=d.lt;have E:=X.lt;refine ta 2 cl1 24 (pg) ?_
 intro v1 f c p B;have v:=Nat.le_trans g.size p;have g:=g.trans (But.of B);have d:=d.keep B;have X:=X.keep B;refine nt<|ag<|sr<|tc 5 47 #[pg f] (mL f) ?_
 rintro _ A ⟨rfl,B⟩;have g:=g.trans (But.of B);have d:=d.keep B;have X:=X.keep B;have c:=c.keep B;refine⟨_,rfl,tz 1<|nt<|aB<|bI (λk=>10 - k) (fun(k:Nat)=>[(0,pg r),(2,pg f),(5,.agg #[pg f,pq f 1,pq f 2,pq f 3,pq f 4,pq f 5,pq f 6,pq f 7,pq f 8,pq f 9]),(6,iI (k:Int))]) (λk w'=>k<=10/\Blk w' f (cR 10 k s) 24/\Blk w' r [pg q,.bool a] 108/\RdA w' q b (rN k s).2.1 (rN k s).2.2/\But q w w') (0:Nat) ⟨Nat.zero_le _,c,X,d,g⟩ (by kernel_rfl) ?_⟩;rintro i v4 ⟨hi,c,X,d,g⟩;have m:=d.lt;have o:=X.lt;refine sr ?_
 by_cases ci:(i:Int) < 10
 ·have h:i < 10:=by omega
  refine tq 7 (.bool (decide ((i:Int) < 10))) (bT) (congrArg Value.bool (decide_eq_true ci))<|nt<|ag<|aL<|aT<|aj<|ag<|aB<|sr<|tr 8 (pq f i) (wY i h)<|tz 1<|nt<|aN<|tz 4<|tl 13 (pg q) X 0<|tc 14 48 #[pg q] (yQ (s:=(rN i s).2) d) ?_
  rintro _ y ⟨x5,t,l,rfl,x,U⟩;have g:=g.trans U;have X:=But.blk U X (by omega);have c:=But.blk U c (by omega);have d:=x;refine⟨_,rfl,tz 1<|ts c (i) (iU x5) [iU x5] (cR 10 (i+1) s) ?_ (hb:=uW h rfl) (he:=uV h (by rw[rN1 l];rfl))⟩;intro z Y C;have g:=mO g C;have d:=RdA.dc d c (by first | rfl | exact eh _ _ _) (by omega) (aU C);have X:=X.chg C (by omega);have c:=Y;refine aO<|cX<|aj<|aN<|tq 16 (iI (IntKind.i64.wrap ((i:Int)+1))) (iI ((i:Int)+1)) (wi (by omega))<|tz 1<|aO ?_
  exact bH (i+1) ⟨h,c,X,(show (rN (i+1) s).2=t by rw[jD,rN1 l])▸d,g⟩ (by kernel_rfl) (hm:=by show 10 - (i+1) < 10 - i;omega)
 have j:i=10:=by omega
 obtain⟨x0,x1,x2,x3,x4,x5,x6,x7,x8,x9,hx⟩:=ir (gg 10 s);rw[j,ql,hx] at c
 have c:Blk _ f [iU x0,iU x1,iU x2,iU x3,iU x4,iU x5,iU x6,iU x7,iU x8,iU x9] 24:=c;refine tq 7 (.bool (decide ((i:Int) < 10))) (bF) (congrArg Value.bool (decide_eq_false ci))<|nt<|ag<|aX<|bQ<|bC<|bC<|dg<|aj<|sr<|tlr 17 [iU x0,iU x1,iU x2,iU x3,iU x4,iU x5,iU x6,iU x7,iU x8,iU x9] c 0<|tsw c [iU x0,iU x1,iU x2,iU x3,iU x4,iU x5,iU x6,iU x7,iU x8,iU x9] ?_
 intro D Y C;have g:=mO g C;have d:=RdA.dc d c (by first | rfl | exact eh _ _ _) (by omega) (aU C);have X:=X.chg C (by omega);have c:=Y;refine nr<|ah (.agg #[iU x0,iU x1,iU x2,iU x3,iU x4,iU x5,iU x6,iU x7,iU x8,iU x9]) (rsc (T:=24) 2 (lr c 0)) ?_
 exact⟨_,_,_,_,_,_,_,_,_,_,_,Prod.ext hx rfl,rfl,j▸d,g⟩
theorem readP{s:St}(X:Blk w r [pg q,.bool a] 108)(c:RdA w q b s.1 s.2)(u:r≠q):CP 20 #[pg r,.int .u32 256,.func (.func 21) #[pg r] #[]] w λe w'=>∃ ao m gl n A s',rL 256 2 s=((n,A),s')/\e=.returned (.slice ao m m)/\Blk w' r [pg q,.bool (a || !decide (n<=256))] 108/\RdA w' q b s'.1 s'.2/\Chg (Rq r q) w w'/\((ao=none/\m=0/\A=[])\/(ao=some ⟨gl,0,none⟩/\w.heap.size<=gl/\Blk w' gl (A.map (Value.int .u64)) 43/\A.length=m * 2)):=by
 have l:=c.lt;have x:=X.lt
 have d:Chg (Rq r q) w w:=Chg.refl _ _;refine af (n:=34) Tryz.func20 rfl ?_
 refine sr<|tz 1<|nx<|tz 3<|tl 13 (pg q) X 0<|tc 14 46 #[pg q] (xQ32 (s:=s) c) ?_
 rintro _ N ⟨H,s2,j,K,rfl,z,U⟩;have d:=vU d U;have X:=But.blk U X (by omega);have c:=z;obtain⟨m,rfl⟩:∃ m:Nat,H=m:=⟨H.toNat,by omega⟩
 refine⟨_,rfl,tz 1<|nt<|ag<|sr<|tz 2 ?_⟩;by_cases F:(256:Int) < (m:Int)
 ·refine tq 17 (.bool (decide ((256:Int) < (m:Int)))) (bT) (congrArg Value.bool (decide_eq_true F))<|nt<|aL<|sr<|tz 1 ?_
  have G:=X.lt;refine tc 19 45 #[pg r,bT] (jy X) ?_
  rintro _ v4 ⟨rfl,I,C⟩;have d:=vR d C;have c:=RdA.dc c X rfl (by omega) (aU C);have X:=I;refine⟨_,rfl,nx<|tz 1<|nt<|aA [(2,.func (.func 21) #[pg r] #[]),(6,zS),(7,.int .u32 (m:Int))]<|bB<|bE<|ah (zS) (rs1 6) ?_⟩
  have y:rL 256 2 s=(((m:Int),[]),s2):=by unfold rL;rw[j];exact if_neg (by simp only;omega)
  exact⟨none,0,0,(m:Int),[],s2,y,rfl,by have e:decide ((m:Int)<=256)=false:=decide_eq_false (by omega);rw[e];exact X,c,d,.inl ⟨rfl,rfl,rfl⟩⟩
 refine tq 17 (.bool (decide ((256:Int) < (m:Int)))) (bF) (congrArg Value.bool (decide_eq_false F))<|nt<|nk<|sr<|tz 1 ?_
 have G:=X.lt;refine GU 21 m 2 cl5 25 43 (by omega) (by kernel_rfl) (by kernel_rfl) ?_
 intro O gl f L B;have p:=Nat.le_trans d.size L;have d:=vB d B;have c:=c.keep B;have X:=X.keep B;refine tz 1<|nt<|aA [(2,.func (.func 21) #[pg r] #[]),(6,zS),(8,.slice (some ⟨gl,0,none⟩) m m)]<|ag<|sr<|tz 3<|nt<|aB<|bI (λh=>m - h) (fun(h:Nat)=>[(2,.func (.func 21) #[pg r] #[]),(8,.slice (some ⟨gl,0,none⟩) m m),(23,iI ((m:Nat):Int)),(24,iI (h:Int))]) (λh w'=>h<=m/\Blk w' gl (cR (m * 2) (h * 2) s2) 43/\Blk w' r [pg q,.bool a] 108/\RdA w' q b (rN (h * 2) s2).2.1 (rN (h * 2) s2).2.2/\Chg (Rq r q) w w') (0:Nat) ⟨Nat.zero_le _,by rw[Nat.zero_mul];exact f,X,c,d⟩ (by kernel_rfl) ?_
 rintro i v6 ⟨hi,f,X,c,d⟩;have l:=c.lt;have x:=X.lt;have t:=f.lt;refine sr ?_
 by_cases ci:(i:Int) < ((m:Nat):Int)
 ·have g:i < m:=by omega
  refine tq 25 (.bool (decide ((i:Int) < ((m:Nat):Int)))) (bT) (congrArg Value.bool (decide_eq_true ci))<|nt<|ag<|aL<|aT<|aj<|ag<|aB<|sr<|tz 2<|nt<|aN<|tz 3 ?_
  have G:=X.lt;have l:=c.lt;have t:=f.lt;refine tc 30 21 #[pg r] (rPurse (s:=(rN (i * 2) s2).2) X c u) ?_
  rintro _ v11 ⟨E,D,J,o,rfl,z,U⟩;have d:=vU d U;have X:=But.blk U X (by omega);have f:=But.blk U f (by omega);have c:=z;refine⟨_,rfl,tr 31 (pq gl (i * 2)) (xk (by simp) (rm 2 gl 0 m m i g))<|ts f (i * 2) (.agg #[iU E,iU D]) [iU E,iU D] (cR (m * 2) (i * 2+2) s2) ?_ (hb:=uW (k:=2) (by omega) rfl) (he:=uV (k:=2) (by omega) (by rw[o];rfl))⟩;intro M Y C;have d:=vN d C (by omega);have c:=RdA.dc c f (by first | rfl | exact eh _ _ _) (by omega) (aU C);have X:=X.chg C (by omega);have f:=Y;refine aO<|cX<|aj<|aN<|tq 32 (iI (IntKind.i64.wrap ((i:Int)+1))) (iI ((i:Int)+1)) (wi (by omega))<|tz 1<|aO ?_
  exact bH (i+1) ⟨g,by rw[show (i+1) * 2=i * 2+2 by omega];exact f,X,(show (rN ((i+1) * 2) s2).2=J by rw[show (i+1) * 2=i * 2+2 by omega,jD,o])▸c,d⟩ (by kernel_rfl) (hm:=by show m - (i+1) < m - i;omega)
 refine tq 25 (.bool (decide ((i:Int) < ((m:Nat):Int)))) (bF) (congrArg Value.bool (decide_eq_false ci))<|nt<|ag<|aX<|bQ<|bC<|bC<|dg<|aj<|sr<|tz 2<|nr<|ah (.slice (some ⟨gl,0,none⟩) m m) (rs1 6) ?_
 have v:i=m:=by omega
 subst v
 have y:rL 256 2 s=(((i:Int),(rN (i * 2) s2).1),(rN (i * 2) s2).2):=by unfold rL;rw[j];exact if_pos (by simp only;omega)
 rw[ql] at f;exact⟨_,_,gl,_,_,_,y,rfl,by have e:decide ((i:Int)<=256)=true:=decide_eq_true (by omega);rw[e,Bool.not_true,Bool.or_false];exact X,c,d,.inr ⟨rfl,p,f,by rw[gg]⟩⟩
theorem readF{s:St}(X:Blk w r [pg q,.bool a] 108)(c:RdA w q b s.1 s.2)(v:r≠q):CP 22 #[pg r,.int .u32 64,.func (.func 23) #[pg r] #[]] w λe w'=>∃ ao m gl n A s',rL 64 3 s=((n,A),s')/\e=.returned (.slice ao m m)/\Blk w' r [pg q,.bool (a || !decide (n<=64))] 108/\RdA w' q b s'.1 s'.2/\Chg (Rq r q) w w'/\((ao=none/\m=0/\A=[])\/(ao=some ⟨gl,0,none⟩/\w.heap.size<=gl/\Blk w' gl (A.map (Value.int .u64)) 45/\A.length=m * 3)):=by
 have l:=c.lt;have y:=X.lt
 have d:Chg (Rq r q) w w:=Chg.refl _ _;refine af (n:=34) Tryz.func22 rfl ?_
 refine sr<|tz 1<|nx<|tz 3<|tl 13 (pg q) X 0<|tc 14 46 #[pg q] (xQ32 (s:=s) c) ?_
 rintro _ P ⟨J,s2,j,M,rfl,D,U⟩;have d:=vU d U;have X:=But.blk U X (by omega);have c:=D;obtain⟨m,rfl⟩:∃ m:Nat,J=m:=⟨J.toNat,by omega⟩
 refine⟨_,rfl,tz 1<|nt<|ag<|sr<|tz 2 ?_⟩;by_cases H:(64:Int) < (m:Int)
 ·refine tq 17 (.bool (decide ((64:Int) < (m:Int)))) (bT) (congrArg Value.bool (decide_eq_true H))<|nt<|aL<|sr<|tz 1 ?_
  have I:=X.lt;refine tc 19 45 #[pg r,bT] (jy X) ?_
  rintro _ v4 ⟨rfl,L,C⟩;have d:=vR d C;have c:=RdA.dc c X rfl (by omega) (aU C);have X:=L;refine⟨_,rfl,nx<|tz 1<|nt<|aA [(2,.func (.func 23) #[pg r] #[]),(6,zS),(7,.int .u32 (m:Int))]<|bB<|bE<|ah (zS) (rs1 6) ?_⟩
  have z:rL 64 3 s=(((m:Int),[]),s2):=by unfold rL;rw[j];exact if_neg (by simp only;omega)
  exact⟨none,0,0,(m:Int),[],s2,z,rfl,by have e:decide ((m:Int)<=64)=false:=decide_eq_false (by omega);rw[e];exact X,c,d,.inl ⟨rfl,rfl,rfl⟩⟩
 refine tq 17 (.bool (decide ((64:Int) < (m:Int)))) (bF) (congrArg Value.bool (decide_eq_false H))<|nt<|nk<|sr<|tz 1 ?_
 have I:=X.lt;refine GU 21 m 3 [iU 0,iU 0,iU 0] 26 45 (by omega) (by kernel_rfl) (by kernel_rfl) ?_
 intro Q gl f N B;have p:=Nat.le_trans d.size N;have d:=vB d B;have c:=c.keep B;have X:=X.keep B;refine tz 1<|nt<|aA [(2,.func (.func 23) #[pg r] #[]),(6,zS),(8,.slice (some ⟨gl,0,none⟩) m m)]<|ag<|sr<|tz 3<|nt<|aB<|bI (λh=>m - h) (fun(h:Nat)=>[(2,.func (.func 23) #[pg r] #[]),(8,.slice (some ⟨gl,0,none⟩) m m),(23,iI ((m:Nat):Int)),(24,iI (h:Int))]) (λh w'=>h<=m/\Blk w' gl (cR (m * 3) (h * 3) s2) 45/\Blk w' r [pg q,.bool a] 108/\RdA w' q b (rN (h * 3) s2).2.1 (rN (h * 3) s2).2.2/\Chg (Rq r q) w w') (0:Nat) ⟨Nat.zero_le _,by rw[Nat.zero_mul];exact f,X,c,d⟩ (by kernel_rfl) ?_
 rintro i v6 ⟨hi,f,X,c,d⟩;have l:=c.lt;have y:=X.lt;have u:=f.lt;refine sr ?_
 by_cases ci:(i:Int) < ((m:Nat):Int)
 ·have g:i < m:=by omega
  refine tq 25 (.bool (decide ((i:Int) < ((m:Nat):Int)))) (bT) (congrArg Value.bool (decide_eq_true ci))<|nt<|ag<|aL<|aT<|aj<|ag<|aB<|sr<|tz 2<|nt<|aN<|tz 3 ?_
  have I:=X.lt;have l:=c.lt;have u:=f.lt;refine tc 30 23 #[pg r] (rFound (s:=(rN (i * 3) s2).2) X c v) ?_
  rintro _ O ⟨G,F,E,t,o,rfl,D,U⟩;have d:=vU d U;have X:=But.blk U X (by omega);have f:=But.blk U f (by omega);have c:=D;refine⟨_,rfl,tr 31 (pq gl (i * 3)) (xk (by simp) (rm 3 gl 0 m m i g))<|ts f (i * 3) (.agg #[iU G,iU F,iU E]) [iU G,iU F,iU E] (cR (m * 3) (i * 3+3) s2) ?_ (hb:=uW (k:=3) (by omega) rfl) (he:=uV (k:=3) (by omega) (by rw[o];rfl))⟩;intro K Y C;have d:=vN d C (by omega);have c:=RdA.dc c f (by first | rfl | exact eh _ _ _) (by omega) (aU C);have X:=X.chg C (by omega);have f:=Y;refine aO<|cX<|aj<|aN<|tq 32 (iI (IntKind.i64.wrap ((i:Int)+1))) (iI ((i:Int)+1)) (wi (by omega))<|tz 1<|aO ?_
  exact bH (i+1) ⟨g,by rw[show (i+1) * 3=i * 3+3 by omega];exact f,X,(show (rN ((i+1) * 3) s2).2=t by rw[show (i+1) * 3=i * 3+3 by omega,jD,o])▸c,d⟩ (by kernel_rfl) (hm:=by show m - (i+1) < m - i;omega)
 refine tq 25 (.bool (decide ((i:Int) < ((m:Nat):Int)))) (bF) (congrArg Value.bool (decide_eq_false ci))<|nt<|ag<|aX<|bQ<|bC<|bC<|dg<|aj<|sr<|tz 2<|nr<|ah (.slice (some ⟨gl,0,none⟩) m m) (rs1 6) ?_
 have x:i=m:=by omega
 subst x
 have z:rL 64 3 s=(((i:Int),(rN (i * 3) s2).1),(rN (i * 3) s2).2):=by unfold rL;rw[j];exact if_pos (by simp only;omega)
 rw[ql] at f;exact⟨_,_,gl,_,_,_,z,rfl,by have e:decide ((i:Int)<=64)=true:=decide_eq_true (by omega);rw[e,Bool.not_true,Bool.or_false];exact X,c,d,.inr ⟨rfl,p,f,by rw[gg]⟩⟩
end
end Gn
end Go.Proofs.YtpoifdokmjhclaaGreat
