import Derived.Test.YtpoifdokmjhclaaGreatJgL
set_option maxRecDepth 100000
set_option maxHeartbeats 8000000
namespace Go.Proofs.YtpoifdokmjhclaaGreat
namespace Gn
open Go.RowKit Go.Lib Pg Lim Gl Mg
attribute [local go_sem] Oper.semAt_some
set_option linter.unusedVariables false
set_option linter.unusedSimpArgs false
section
variable {w v v':World}{g b m i k r q:Nat}{vs z cs:List Value}{x y:Int}{ops:Array Oper}{rest:List Oper}{c a:Bool}{l:List Int}
theorem xQ32{s:St}(R:RdA w g b s.1 s.2):Calls Tryz.prog 46 #[pg g] w fun e w'=>∃ v s',rU 4 s=(v,s')/\(0<=v/\v < 4294967296)/\e=.returned (.int .u32 v)/\RdA w' g b s'.1 s'.2/\But g w w':=by
 refine(rdU32 R).mono ?_
 rintro e w' ⟨rfl,a,U⟩;exact⟨_,_,rfl,(pI (m:=4) rfl R.oct).1.2,rfl,a,U⟩
theorem jW{α:Type}{l:List α}(h:l.length=10):∃ a b c d e f g i j k,l=[a,b,c,d,e,f,g,i,j,k]:=by
 match l,h with
 | [a,b,c,d,e,f,g,i,j,k],_=>exact⟨a,b,c,d,e,f,g,i,j,k,rfl⟩
def cR(m i:Nat)(s:St):List Value:=((rN i s).1 ++ List.replicate (m - i) 0).map (Value.int .u64)
theorem A8{s:St}(h:i<=m):(cR m i s).length=m:=by simp only[cR,List.length_map,List.length_append,gF,List.length_replicate];omega
theorem pK(m:Nat)(s:St):cR m m s=(rN m s).1.map (Value.int .u64):=by simp[cR]
theorem dW(m i:Nat)(s:St):(cR m i s).any u8V=false:=by
 rw[List.any_eq_false];intro v hv;obtain⟨x,_,rfl⟩:=List.mem_map.1 hv;simp[u8V]
theorem uj{s:St}(h:i+k<=m)(hv:(rN k (rN i s).2).1.map (Value.int .u64)=vs):spl (cR m i s) i vs=cR m (i+k) s:=by
 subst hv
 have a:(rN i s).1.length=i:=gF i s
 have b:(rN k (rN i s).2).1.length=k:=gF k _;unfold spl cR;rw[nE];simp only[List.map_append,List.length_map,b];rw[List.take_left' (by rw[List.length_map,a]),List.drop_append,List.drop_of_length_le (by rw[List.length_map,a];omega),List.length_map,a,List.nil_append,show i+k - i=k by omega,List.map_replicate,List.map_replicate,List.drop_replicate,show m - i - k=m - (i+k) by omega]
theorem uk{s:St}(h:i+k<=m)(hv:vs.length=k):Nat.ble (i+vs.length) (cR m i s).length=true:=by
 rw[A8 (by omega),hv];exact Nat.ble_eq_true_of_le h
theorem rN1{s s':St}{v:Int}(e:rU 8 s=(v,s')):rN 1 s=([v],s'):=by simp only[rN,e]
theorem rN2{s s1 s2:St}(e:rU 8 s=(x,s1))(e1:rU 8 s1=(y,s2)):rN 2 s=([x,y],s2):=by simp only[rN,e,e1]
theorem rN3{s s1 s2 s3:St}{z:Int}(e:rU 8 s=(x,s1))(e1:rU 8 s1=(y,s2))(e2:rU 8 s2=(z,s3)):rN 3 s=([x,y,z],s3):=by simp only[rN,e,e1,e2]
abbrev Rq(r q:Nat):Nat->Prop:=fun x=>x=r\/x=q
theorem chgU{w':World}(U:But g w w'):Chg (·=g) w w':=⟨U.os,U.tape,U.output,U.size,fun b hb hn=>U.block b hb hn⟩
theorem vB(C:Chg (Rq r q) w v)(B:Below v.heap.size v v'):Chg (Rq r q) w v':=C.trans (Chg.of (F:=fun _=>False) B) (fun _ _ h=>h.elim)
theorem vU(C:Chg (Rq r q) w v)(U:But q v v'):Chg (Rq r q) w v':=C.trans (chgU U) (fun _ _ h=>.inr h)
theorem vR(C:Chg (Rq r q) w v)(U:Chg (·=r) v v'):Chg (Rq r q) w v':=C.trans U (fun _ _ h=>.inl h)
theorem vN(C:Chg (Rq r q) w v)(U:Chg (·=g) v v')(hg:w.heap.size<=g):Chg (Rq r q) w v':=C.trans U (fun b hb h=>by have h':b=g:=h;omega)
theorem vBl{a:World}(B:Below a.heap.size a w)(C:Chg (Rq r q) w v)(hr:a.heap.size<=r)(hq:a.heap.size<=q):Below a.heap.size a v:=B.trans (C.below (fun b hb=>by rcases hb with h | h<;>omega) B.size)
theorem bV{t:TypeId}(X:Blk w g cs t)(C:Chg (Rq r q) w v)(h:g≠r/\g≠q):Blk v g cs t:=X.chg C (fun e=>e.elim h.1 h.2)
theorem made64(c:∀ v∈z,v=.int .u64 0)(a:0 < z.length)(n:Nat):madeCells z.toArray n=(cR n 0 (0,[])).toArray:=by
 apply Array.ext
 ·rw[size_madeCells,List.size_toArray,A8 (Nat.zero_le _)]
 ·intro j e d
  have b:j % z.length < z.length:=Nat.mod_lt _ a;simp only[madeCells,cR,rN,List.nil_append,Nat.sub_zero,List.map_replicate,List.getElem_toArray,List.getElem_replicate,Array.getElem_map,Array.getElem_range,List.size_toArray];rw[List.getElem!_toArray,List.getElem!_eq_getElem?_getD,List.getElem?_eq_getElem b,Option.getD_some];exact c _ (List.getElem_mem _)
theorem Fw{n:Nat}{ds:List Deferred}{o:Oper}{l:Fr}{Q:Exit->Act->World->Prop}(d m k:Nat)(z:List Value)(T E:TypeId)(hm:m<=1000000)(ht:Tryz.prog.underlying T=some (.slice E))(hi:(Tryz.prog.info? E).map (fun i=>(i.zero,i.size,decide (i.bytes<=1000)))=some (some (.agg z.toArray),k,true))(h:∀ w1 g,Blk w1 g (cR (m * k) 0 (0,[])) E->w.heap.size<=g->Below w.heap.size w w1->GL Tryz.prog n ds ops Q rest ((d,.slice (some ⟨g,0,none⟩) m m) :: l) w1)(j:∀ v∈z,v=.int .u64 0:=by simp)(p:0 < z.length:=by decide)(ho:∃ x,o.op=.makeSlice T x x/\evL l x=.int .u32 (m:Int):=by exact⟨_,rfl,by kernel_rfl⟩)(q:gd ops l o=some true:=by kernel_rfl)(hc:chk n l o (some d)=true:=by kernel_rfl):GL Tryz.prog n ds ops Q (o :: rest) l w:=by
 obtain⟨x,r,f⟩:=ho
 cases hq:Tryz.prog.info? E with
 | none=>rw[hq] at hi;cases hi
 | some i =>
  rw[hq] at hi;simp only[Option.map_some,Option.some.injEq,Prod.mk.injEq,decide_eq_true_eq] at hi;obtain⟨i1,i2,i3⟩:=hi;have e:=run_make (P:=Tryz.prog) w T E i _ ht hq i1 .u32 .u32 (m:Int) (m:Int) (by omega) (by omega) (by have:=Int.mul_le_mul (a:=(i.bytes:Int)) (b:=(m:Int)) (c:=1000) (d:=1000000) (by omega) (by omega) (by omega) (by omega);omega) (by omega);refine fw (some d) (.slice (some ⟨w.heap.size,0,none⟩) m m) q hc ?_ (h (w.alloc (.cells (cR (m * k) 0 (0,[])).toArray E)) _ (aj w _ E) (Nat.le_refl _) (aa w _));simp only[execOp,r,f];rw[i2,show (Value.agg z.toArray).cells=z.toArray from rfl,made64 j p,Int.toNat_natCast] at e;simp[e,Result.andThen]
theorem yu(X:Blk w r [pg q,.bool true] 108):Calls Tryz.prog 45 #[pg r,.bool c] w fun e w'=>e=.returned (.tuple #[])/\Blk w' r [pg q,.bool true] 108/\Chg (· = r) w w':=by
 have a:Chg (·=r) w w:=Chg.refl _ _;refine af (n:=14) Tryz.func45 rfl ?_
 refine aN<|tz 4<|tl 8 (.bool true) X 1<|tz 1<|tn 10<|tz 3<|ts X 1 (.bool true) [.bool true] [pg q,.bool true] ?_
 intro v1 Y C;replace a:=a.trans C (fun _ _ h=>h);clear C X;have X:=Y;clear Y;refine aO<|aV (.tuple #[]) (rs0) ?_
 exact⟨rfl,X,a⟩
theorem BE(X:Blk w r [pg q,.bool false] 108):Calls Tryz.prog 45 #[pg r,.bool c] w fun e w'=>e=.returned (.tuple #[])/\Blk w' r [pg q,.bool c] 108/\Chg (· = r) w w':=by
 have a:Chg (·=r) w w:=Chg.refl _ _;refine af (n:=14) Tryz.func45 rfl ?_
 refine aN<|tz 4<|tl 8 (.bool false) X 1<|tz 5<|ts X 1 (.bool c) [.bool c] [pg q,.bool c] ?_
 intro v1 Y C;replace a:=a.trans C (fun _ _ h=>h);clear C X;have X:=Y;clear Y;refine aO<|aV (.tuple #[]) (rs0) ?_
 exact⟨rfl,X,a⟩
theorem ji(X:Blk w r [pg q,.bool a] 108):Calls Tryz.prog 45 #[pg r,.bool c] w fun e w'=>e=.returned (.tuple #[])/\Blk w' r [pg q,.bool (a || c)] 108/\Chg (· = r) w w':=by
 cases a with
 | true=>exact yu X
 | false=>exact BE X
theorem yT{s:St}(X:Blk w r [pg q,.bool a] 108)(c:RdA w q b s.1 s.2)(i:r≠q):Calls Tryz.prog 18 #[pg r] w fun e w'=>∃ v s',rU 4 s=(v,s')/\e=.returned (.tuple #[])/\Blk w' r [pg q,.bool (a || (v != 1196183089))] 108/\RdA w' q b s'.1 s'.2/\Chg (Rq r q) w w':=by
 have j:=c.lt;have k:=X.lt
 have d:Chg (Rq r q) w w:=Chg.refl _ _;refine af (n:=10) Tryz.func18 rfl ?_
 refine aN<|tz 4<|tl 6 (pg q) X 0<|tc 7 46 #[pg q] (xQ32 (s:=s) c) ?_
 rintro _ o ⟨l,s2,f,m,rfl,g,U⟩;refine⟨_,rfl,?_⟩;replace d:=vU d U;replace X:=But.blk U X (show r≠q by omega);clear U;clear c;have c:=g;clear g;refine tz 1 ?_
 have p:=X.lt;refine tc 9 45 #[pg r,.bool (l != 1196183089)] (ji X) ?_
 rintro _ v4 ⟨rfl,h,C⟩;refine⟨_,rfl,?_⟩;replace d:=vR d C;replace c:=RdA.gq c X rfl (by omega) (cF C);clear C;clear X;have X:=h;clear h;refine aO<|aV (.tuple #[]) (rs0) ?_
 exact⟨_,_,f,rfl,X,c,d⟩
theorem rPurse{s:St}(X:Blk w r [pg q,.bool a] 108)(d:RdA w q b s.1 s.2)(p:r≠q):Calls Tryz.prog 21 #[pg r] w fun e w'=>∃ x y s',rN 2 s=([x,y],s')/\e=.returned (.agg #[.int .u64 x,.int .u64 y])/\RdA w' q b s'.1 s'.2/\But q w w':=by
 have m:=d.lt;have t:=X.lt;have f:=But.refl q w;refine af (n:=16) Tryz.func21 rfl ?_
 refine sr ?_
 have m:=d.lt;have z:=X.lt;refine ta 2 [.int .u64 0,.int .u64 0] 43 (pg) ?_
 intro v1 i c o B;have u:=Nat.le_trans f.size o;replace f:=f.trans (But.of B);replace d:=d.keep B;replace X:=X.keep B;clear B;refine nx<|tz 3<|tl 6 (pg q) X 0<|tc 7 48 #[pg q] (xV (s:=s) d) ?_
 rintro _ D ⟨g,s4,k,rfl,j,U⟩;refine⟨_,rfl,?_⟩;replace f:=f.trans U;replace X:=But.blk U X (show r≠q by omega);replace c:=But.blk U c (show i≠q by omega);clear U;clear d;have d:=j;clear j;refine tz 1<|ts c 0 (.int .u64 g) [.int .u64 g] [.int .u64 g,.int .u64 0] ?_
 intro v6 Y C;replace f:=mg f C (by omega);replace d:=RdA.gq d c (by first | rfl | exact dW _ _ _) (by omega) (cF C);replace X:=X.chg C (show r≠i by omega);clear C c;have c:=Y;clear Y;refine nx<|tz 3<|tl 12 (pg q) X 0<|tc 13 48 #[pg q] (xV (s:=s4) d) ?_
 rintro _ v ⟨h,A,l,rfl,j,U⟩;refine⟨_,rfl,?_⟩;replace f:=f.trans U;replace X:=But.blk U X (show r≠q by omega);replace c:=But.blk U c (show i≠q by omega);clear U;clear d;have d:=j;clear j;refine tz 1<|ts c 1 (.int .u64 h) [.int .u64 h] [.int .u64 g,.int .u64 h] ?_
 intro v10 Y C;replace f:=mg f C (by omega);replace d:=RdA.gq d c (by first | rfl | exact dW _ _ _) (by omega) (cF C);replace X:=X.chg C (show r≠i by omega);clear C c;have c:=Y;clear Y;refine nx<|tlr 15 [.int .u64 g,.int .u64 h] c 0<|tsw c [.int .u64 g,.int .u64 h] ?_
 intro v11 Y C;replace f:=mg f C (by omega);replace d:=RdA.gq d c (by first | rfl | exact dW _ _ _) (by omega) (cF C);replace X:=X.chg C (show r≠i by omega);clear C c;have c:=Y;clear Y;refine nr<|ah (.agg #[.int .u64 g,.int .u64 h]) (rsc (T:=43) 2 (lr c 0)) ?_
 exact⟨_,_,_,rN2 k l,rfl,d,f⟩
theorem rFound{s:St}(X:Blk w r [pg q,.bool a] 108)(d:RdA w q b s.1 s.2)(v:r≠q):Calls Tryz.prog 23 #[pg r] w fun e w'=>∃ x y u s',rN 3 s=([x,y,u],s')/\e=.returned (.agg #[.int .u64 x,.int .u64 y,.int .u64 u])/\RdA w' q b s'.1 s'.2/\But q w w':=by
 have p:=d.lt;have E:=X.lt;have f:=But.refl q w;refine af (n:=22) Tryz.func23 rfl ?_
 refine sr ?_
 have p:=d.lt;have J:=X.lt;refine ta 2 [.int .u64 0,.int .u64 0,.int .u64 0] 45 (pg) ?_
 intro v1 i c t B;have G:=Nat.le_trans f.size t;replace f:=f.trans (But.of B);replace d:=d.keep B;replace X:=X.keep B;clear B;refine nx<|tz 3<|tl 6 (pg q) X 0<|tc 7 48 #[pg q] (xV (s:=s) d) ?_
 rintro _ K ⟨h,s4,m,rfl,j,U⟩;refine⟨_,rfl,?_⟩;replace f:=f.trans U;replace X:=But.blk U X (show r≠q by omega);replace c:=But.blk U c (show i≠q by omega);clear U;clear d;have d:=j;clear j;refine tz 1<|ts c 0 (.int .u64 h) [.int .u64 h] [.int .u64 h,.int .u64 0,.int .u64 0] ?_
 intro v6 Y C;replace f:=mg f C (by omega);replace d:=RdA.gq d c (by first | rfl | exact dW _ _ _) (by omega) (cF C);replace X:=X.chg C (show r≠i by omega);clear C c;have c:=Y;clear Y;refine nx<|tz 3<|tl 12 (pg q) X 0<|tc 13 48 #[pg q] (xV (s:=s4) d) ?_
 rintro _ I ⟨k,F,o,rfl,j,U⟩;refine⟨_,rfl,?_⟩;replace f:=f.trans U;replace X:=But.blk U X (show r≠q by omega);replace c:=But.blk U c (show i≠q by omega);clear U;clear d;have d:=j;clear j;refine tz 1<|ts c 1 (.int .u64 k) [.int .u64 k] [.int .u64 h,.int .u64 k,.int .u64 0] ?_
 intro v10 Y C;replace f:=mg f C (by omega);replace d:=RdA.gq d c (by first | rfl | exact dW _ _ _) (by omega) (cF C);replace X:=X.chg C (show r≠i by omega);clear C c;have c:=Y;clear Y;refine nx<|tz 3<|tl 18 (pg q) X 0<|tc 19 48 #[pg q] (xV (s:=F) d) ?_
 rintro _ z ⟨g,H,l,rfl,j,U⟩;refine⟨_,rfl,?_⟩;replace f:=f.trans U;replace X:=But.blk U X (show r≠q by omega);replace c:=But.blk U c (show i≠q by omega);clear U;clear d;have d:=j;clear j;refine tz 1<|ts c 2 (.int .u64 g) [.int .u64 g] [.int .u64 h,.int .u64 k,.int .u64 g] ?_
 intro D Y C;replace f:=mg f C (by omega);replace d:=RdA.gq d c (by first | rfl | exact dW _ _ _) (by omega) (cF C);replace X:=X.chg C (show r≠i by omega);clear C c;have c:=Y;clear Y;refine nt<|ay [(2,pg i)]<|sr<|tlr 21 [.int .u64 h,.int .u64 k,.int .u64 g] c 0<|tsw c [.int .u64 h,.int .u64 k,.int .u64 g] ?_
 intro A Y C;replace f:=mg f C (by omega);replace d:=RdA.gq d c (by first | rfl | exact dW _ _ _) (by omega) (cF C);replace X:=X.chg C (show r≠i by omega);clear C c;have c:=Y;clear Y;refine nr<|ah (.agg #[.int .u64 h,.int .u64 k,.int .u64 g]) (rsc (T:=45) 2 (lr c 0)) ?_
 exact⟨_,_,_,_,rN3 m o l,rfl,d,f⟩
theorem RdA.len{err:Int}(h:RdA w g b err l):l.length<=9223372036854775807:=by
 obtain⟨ao,n,c,X,A⟩:=h.ex;obtain⟨o,h1,h2,h3,h4,h5⟩:=A.ex;have:=h3.1;omega
theorem wR{s:St}(X:Blk w r [pg q,.bool a] 108)(c:RdA w q b s.1 s.2)(g:r≠q):Calls Tryz.prog 24 #[pg r] w fun e w'=>e=.returned (.bool (decide (cM s.1 s.2=0) && !a))/\RdA w' q b (cM s.1 s.2) s.2/\But q w w':=by
 have h:=c.lt;have i:=X.lt;have d:=But.refl q w;refine af (n:=16) Tryz.func24 rfl ?_
 refine sr<|tz 1<|nx<|tz 3<|tl 6 (pg q) X 0<|tc 7 49 #[pg q] (oG c (RdA.len c)) ?_
 rintro _ v1 ⟨rfl,f,U⟩;refine⟨_,rfl,?_⟩;replace d:=d.trans U;replace X:=But.blk U X (show r≠q by omega);clear U;clear c;have c:=f;clear f;by_cases c2:(cM s.1 s.2:Int)=0
 ·refine tq 8 (.bool ((cM s.1 s.2:Int) == 0)) (bT) (congrArg Value.bool (beq_iff_eq.2 c2))<|tz 4<|tl 13 (.bool a) X 1<|tz 3<|nt<|ay [(2,.bool (!a))]<|bh<|ah (.bool (!a)) (rs1 2) ?_
  exact⟨by rw[c2];rfl,c,d⟩
 ·refine tq 8 (.bool ((cM s.1 s.2:Int) == 0)) (bF) (congrArg Value.bool (beq_eq_false_iff_ne.2 c2))<|tz 1<|tn 10<|tn 11<|tn 12<|tn 13<|tn 14<|tz 2<|nt<|ay [(2,bF)]<|bh<|ah (bF) (rs1 2) ?_
  exact⟨by rw[decide_eq_false c2];rfl,c,d⟩
theorem EB{s:St}(X:Blk w r [pg q,.bool a] 108)(d:RdA w q b s.1 s.2)(v:r≠q):Calls Tryz.prog 19 #[pg r] w fun e w'=>∃ x0 x1 x2 x3 x4 x5 x6 x7 x8 x9 s',rN 10 s=([x0,x1,x2,x3,x4,x5,x6,x7,x8,x9],s')/\e=.returned (.agg #[.int .u64 x0,.int .u64 x1,.int .u64 x2,.int .u64 x3,.int .u64 x4,.int .u64 x5,.int .u64 x6,.int .u64 x7,.int .u64 x8,.int .u64 x9])/\RdA w' q b s'.1 s'.2/\But q w w':=by
 have m:=d.lt;have o:=X.lt;have g:=But.refl q w;refine af (n:=18) Tryz.func19 rfl ?_
 refine sr ?_
 have m:=d.lt;have E:=X.lt;refine ta 2 [iU 0,iU 0,iU 0,iU 0,iU 0,iU 0,iU 0,iU 0,iU 0,iU 0] 24 (pg) ?_
 intro v1 f c p B;have x:=Nat.le_trans g.size p;replace g:=g.trans (But.of B);replace d:=d.keep B;replace X:=X.keep B;refine nt<|ag<|sr<|tc 5 47 #[pg f] (l8 f) ?_
 rintro _ A ⟨rfl,B⟩;refine⟨_,rfl,?_⟩;replace g:=g.trans (But.of B);replace d:=d.keep B;replace X:=X.keep B;replace c:=c.keep B;refine tz 1<|nt<|aB<|bH (fun k=>10 - k) (fun(k:Nat)=>[(0,pg r),(2,pg f),(5,.agg #[pg f,pq f 1,pq f 2,pq f 3,pq f 4,pq f 5,pq f 6,pq f 7,pq f 8,pq f 9]),(6,iI (k:Int))]) (fun k w'=>k<=10/\Blk w' f (cR 10 k s) 24/\Blk w' r [pg q,.bool a] 108/\RdA w' q b (rN k s).2.1 (rN k s).2.2/\But q w w') (0:Nat) ⟨Nat.zero_le _,c,X,d,g⟩ (by kernel_rfl) ?_
 clear g d X c;rintro i v4 ⟨hi,c,X,d,g⟩;have m:=d.lt;have o:=X.lt;refine sr ?_
 by_cases ci:(i:Int) < 10
 ·have h:i < 10:=by omega
  refine tq 7 (.bool (decide ((i:Int) < 10))) (bT) (congrArg Value.bool (decide_eq_true ci))<|nt<|ag<|aJ<|aU<|ai<|ag<|aB<|sr<|tr 8 (pq f i) (we i h)<|tz 1<|nt<|aN<|tz 4<|tl 13 (pg q) X 0<|tc 14 48 #[pg q] (xV (s:=(rN i s).2) d) ?_
  rintro _ y ⟨x5,u,l,rfl,t,U⟩;refine⟨_,rfl,?_⟩;replace g:=g.trans U;replace X:=But.blk U X (show r≠q by omega);replace c:=But.blk U c (show f≠q by omega);clear U;clear d;have d:=t;clear t;refine tz 1<|ts c (i) (iU x5) [iU x5] (cR 10 (i+1) s) ?_ (hb:=uk h rfl) (he:=uj h (by rw[rN1 l];rfl))
  intro z Y C;replace g:=mg g C (by omega);replace d:=RdA.gq d c (by first | rfl | exact dW _ _ _) (by omega) (cF C);replace X:=X.chg C (show r≠f by omega);have c:=Y;refine aO<|dc<|ai<|aN<|tq 16 (iI (IntKind.i64.wrap ((i:Int)+1))) (iI ((i:Int)+1)) (wi (by omega))<|tz 1<|aO ?_
  exact bQ (i+1) (by show 10 - (i+1) < 10 - i;omega) ⟨h,c,X,(show (rN (i+1) s).2=u by rw[nE,rN1 l])▸d,g⟩ (by kernel_rfl)
 ·have j:i=10:=by omega
  obtain⟨x0,x1,x2,x3,x4,x5,x6,x7,x8,x9,hx⟩:=jW (gF 10 s);rw[j,pK,hx] at c;replace c:Blk _ f [iU x0,iU x1,iU x2,iU x3,iU x4,iU x5,iU x6,iU x7,iU x8,iU x9] 24:=c;refine tq 7 (.bool (decide ((i:Int) < 10))) (bF) (congrArg Value.bool (decide_eq_false ci))<|nt<|ag<|aY<|bR<|bC<|bC<|dm<|ai<|sr<|tlr 17 [iU x0,iU x1,iU x2,iU x3,iU x4,iU x5,iU x6,iU x7,iU x8,iU x9] c 0<|tsw c [iU x0,iU x1,iU x2,iU x3,iU x4,iU x5,iU x6,iU x7,iU x8,iU x9] ?_
  intro D Y C;replace g:=mg g C (by omega);replace d:=RdA.gq d c (by first | rfl | exact dW _ _ _) (by omega) (cF C);replace X:=X.chg C (show r≠f by omega);have c:=Y;refine nr<|ah (.agg #[iU x0,iU x1,iU x2,iU x3,iU x4,iU x5,iU x6,iU x7,iU x8,iU x9]) (rsc (T:=24) 2 (lr c 0)) ?_
  exact⟨_,_,_,_,_,_,_,_,_,_,_,Prod.ext hx rfl,rfl,j▸d,g⟩
theorem readP{s:St}(X:Blk w r [pg q,.bool a] 108)(c:RdA w q b s.1 s.2)(v:r≠q):Calls Tryz.prog 20 #[pg r,.int .u32 256,.func (.func 21) #[pg r] #[]] w fun e w'=>∃ ao m gl n A s',rL 256 2 s=((n,A),s')/\e=.returned (.slice ao m m)/\Blk w' r [pg q,.bool (a || !decide (n<=256))] 108/\RdA w' q b s'.1 s'.2/\Chg (Rq r q) w w'/\((ao=none/\m=0/\A=[])\/(ao=some ⟨gl,0,none⟩/\w.heap.size<=gl/\Blk w' gl (A.map (Value.int .u64)) 43/\A.length=m * 2)):=by
 have l:=c.lt;have y:=X.lt
 have d:Chg (Rq r q) w w:=Chg.refl _ _;refine af (n:=34) Tryz.func20 rfl ?_
 refine sr<|tz 1<|nx<|tz 3<|tl 13 (pg q) X 0<|tc 14 46 #[pg q] (xQ32 (s:=s) c) ?_
 rintro _ N ⟨I,s2,j,K,rfl,p,U⟩;refine⟨_,rfl,?_⟩;replace d:=vU d U;replace X:=But.blk U X (show r≠q by omega);clear U;clear c;have c:=p;clear p;obtain⟨m,rfl⟩:∃ m:Nat,I=m:=⟨I.toNat,by omega⟩
 refine tz 1<|nt<|ag<|sr<|tz 2 ?_
 by_cases G:(256:Int) < (m:Int)
 ·refine tq 17 (.bool (decide ((256:Int) < (m:Int)))) (bT) (congrArg Value.bool (decide_eq_true G))<|nt<|aJ<|sr<|tz 1 ?_
  have H:=X.lt;refine tc 19 45 #[pg r,bT] (ji X) ?_
  rintro _ v4 ⟨rfl,E,C⟩;refine⟨_,rfl,?_⟩;replace d:=vR d C;replace c:=RdA.gq c X rfl (by omega) (cF C);clear X;have X:=E;clear E;refine nx<|tz 1<|nt<|ay [(2,.func (.func 21) #[pg r] #[]),(6,zS),(7,.int .u32 (m:Int))]<|bh<|bN<|ah (zS) (rs1 6) ?_
  have z:rL 256 2 s=(((m:Int),[]),s2):=by unfold rL;rw[j];exact if_neg (by simp only;omega)
  exact⟨none,0,0,(m:Int),[],s2,z,rfl,by have e:decide ((m:Int)<=256)=false:=decide_eq_false (by omega);rw[e];exact X,c,d,.inl ⟨rfl,rfl,rfl⟩⟩
 ·refine tq 17 (.bool (decide ((256:Int) < (m:Int)))) (bF) (congrArg Value.bool (decide_eq_false G))<|nt<|nk<|sr<|tz 1 ?_
  have H:=X.lt;refine Fw 21 m 2 [iU 0,iU 0] 25 43 (by omega) (by kernel_rfl) (by kernel_rfl) ?_
  intro O gl f L B;have t:=Nat.le_trans d.size L;replace d:=vB d B;replace c:=c.keep B;replace X:=X.keep B;refine tz 1<|nt<|ay [(2,.func (.func 21) #[pg r] #[]),(6,zS),(8,.slice (some ⟨gl,0,none⟩) m m)]<|ag<|sr<|tz 3<|nt<|aB<|bH (fun h=>m - h) (fun(h:Nat)=>[(2,.func (.func 21) #[pg r] #[]),(8,.slice (some ⟨gl,0,none⟩) m m),(23,iI ((m:Nat):Int)),(24,iI (h:Int))]) (fun h w'=>h<=m/\Blk w' gl (cR (m * 2) (h * 2) s2) 43/\Blk w' r [pg q,.bool a] 108/\RdA w' q b (rN (h * 2) s2).2.1 (rN (h * 2) s2).2.2/\Chg (Rq r q) w w') (0:Nat) ⟨Nat.zero_le _,by rw[Nat.zero_mul];exact f,X,c,d⟩ (by kernel_rfl) ?_
  clear d c X f;rintro i v6 ⟨hi,f,X,c,d⟩;have l:=c.lt;have y:=X.lt;have u:=f.lt;refine sr ?_
  by_cases ci:(i:Int) < ((m:Nat):Int)
  ·have g:i < m:=by omega
   refine tq 25 (.bool (decide ((i:Int) < ((m:Nat):Int)))) (bT) (congrArg Value.bool (decide_eq_true ci))<|nt<|ag<|aJ<|aU<|ai<|ag<|aB<|sr<|tz 2<|nt<|aN<|tz 3 ?_
   have H:=X.lt;have l:=c.lt;have u:=f.lt;refine tc 30 21 #[pg r] (rPurse (s:=(rN (i * 2) s2).2) X c v) ?_
   rintro _ v11 ⟨F,D,J,o,rfl,p,U⟩;refine⟨_,rfl,?_⟩;replace d:=vU d U;replace X:=But.blk U X (show r≠q by omega);replace f:=But.blk U f (show gl≠q by omega);clear U;clear c;have c:=p;clear p;refine tr 31 (pq gl (i * 2)) (wG (by simp) (qD 2 gl 0 m m i g))<|ts f (i * 2) (.agg #[iU F,iU D]) [iU F,iU D] (cR (m * 2) (i * 2+2) s2) ?_ (hb:=uk (k:=2) (by omega) rfl) (he:=uj (k:=2) (by omega) (by rw[o];rfl))
   intro M Y C;replace d:=vN d C (by omega);replace c:=RdA.gq c f (by first | rfl | exact dW _ _ _) (by omega) (cF C);replace X:=X.chg C (show r≠gl by omega);have f:=Y;refine aO<|dc<|ai<|aN<|tq 32 (iI (IntKind.i64.wrap ((i:Int)+1))) (iI ((i:Int)+1)) (wi (by omega))<|tz 1<|aO ?_
   exact bQ (i+1) (by show m - (i+1) < m - i;omega) ⟨g,by rw[show (i+1) * 2=i * 2+2 by omega];exact f,X,(show (rN ((i+1) * 2) s2).2=J by rw[show (i+1) * 2=i * 2+2 by omega,nE,o])▸c,d⟩ (by kernel_rfl)
  ·refine tq 25 (.bool (decide ((i:Int) < ((m:Nat):Int)))) (bF) (congrArg Value.bool (decide_eq_false ci))<|nt<|ag<|aY<|bR<|bC<|bC<|dm<|ai<|sr<|tz 2<|nr<|ah (.slice (some ⟨gl,0,none⟩) m m) (rs1 6) ?_
   have x:i=m:=by omega
   subst x
   have z:rL 256 2 s=(((i:Int),(rN (i * 2) s2).1),(rN (i * 2) s2).2):=by unfold rL;rw[j];exact if_pos (by simp only;omega)
   rw[pK] at f;exact⟨_,_,gl,_,_,_,z,rfl,by have e:decide ((i:Int)<=256)=true:=decide_eq_true (by omega);rw[e,Bool.not_true,Bool.or_false];exact X,c,d,.inr ⟨rfl,t,f,by rw[gF]⟩⟩
theorem readF{s:St}(X:Blk w r [pg q,.bool a] 108)(c:RdA w q b s.1 s.2)(x:r≠q):Calls Tryz.prog 22 #[pg r,.int .u32 64,.func (.func 23) #[pg r] #[]] w fun e w'=>∃ ao m gl n A s',rL 64 3 s=((n,A),s')/\e=.returned (.slice ao m m)/\Blk w' r [pg q,.bool (a || !decide (n<=64))] 108/\RdA w' q b s'.1 s'.2/\Chg (Rq r q) w w'/\((ao=none/\m=0/\A=[])\/(ao=some ⟨gl,0,none⟩/\w.heap.size<=gl/\Blk w' gl (A.map (Value.int .u64)) 45/\A.length=m * 3)):=by
 have l:=c.lt;have z:=X.lt
 have d:Chg (Rq r q) w w:=Chg.refl _ _;refine af (n:=34) Tryz.func22 rfl ?_
 refine sr<|tz 1<|nx<|tz 3<|tl 13 (pg q) X 0<|tc 14 46 #[pg q] (xQ32 (s:=s) c) ?_
 rintro _ P ⟨K,s2,j,M,rfl,o,U⟩;refine⟨_,rfl,?_⟩;replace d:=vU d U;replace X:=But.blk U X (show r≠q by omega);clear U;clear c;have c:=o;clear o;obtain⟨m,rfl⟩:∃ m:Nat,K=m:=⟨K.toNat,by omega⟩
 refine tz 1<|nt<|ag<|sr<|tz 2 ?_
 by_cases I:(64:Int) < (m:Int)
 ·refine tq 17 (.bool (decide ((64:Int) < (m:Int)))) (bT) (congrArg Value.bool (decide_eq_true I))<|nt<|aJ<|sr<|tz 1 ?_
  have J:=X.lt;refine tc 19 45 #[pg r,bT] (ji X) ?_
  rintro _ v4 ⟨rfl,G,C⟩;refine⟨_,rfl,?_⟩;replace d:=vR d C;replace c:=RdA.gq c X rfl (by omega) (cF C);clear X;have X:=G;clear G;refine nx<|tz 1<|nt<|ay [(2,.func (.func 23) #[pg r] #[]),(6,zS),(7,.int .u32 (m:Int))]<|bh<|bN<|ah (zS) (rs1 6) ?_
  have D:rL 64 3 s=(((m:Int),[]),s2):=by unfold rL;rw[j];exact if_neg (by simp only;omega)
  exact⟨none,0,0,(m:Int),[],s2,D,rfl,by have e:decide ((m:Int)<=64)=false:=decide_eq_false (by omega);rw[e];exact X,c,d,.inl ⟨rfl,rfl,rfl⟩⟩
 ·refine tq 17 (.bool (decide ((64:Int) < (m:Int)))) (bF) (congrArg Value.bool (decide_eq_false I))<|nt<|nk<|sr<|tz 1 ?_
  have J:=X.lt;refine Fw 21 m 3 [iU 0,iU 0,iU 0] 26 45 (by omega) (by kernel_rfl) (by kernel_rfl) ?_
  intro Q gl f N B;have t:=Nat.le_trans d.size N;replace d:=vB d B;replace c:=c.keep B;replace X:=X.keep B;refine tz 1<|nt<|ay [(2,.func (.func 23) #[pg r] #[]),(6,zS),(8,.slice (some ⟨gl,0,none⟩) m m)]<|ag<|sr<|tz 3<|nt<|aB<|bH (fun h=>m - h) (fun(h:Nat)=>[(2,.func (.func 23) #[pg r] #[]),(8,.slice (some ⟨gl,0,none⟩) m m),(23,iI ((m:Nat):Int)),(24,iI (h:Int))]) (fun h w'=>h<=m/\Blk w' gl (cR (m * 3) (h * 3) s2) 45/\Blk w' r [pg q,.bool a] 108/\RdA w' q b (rN (h * 3) s2).2.1 (rN (h * 3) s2).2.2/\Chg (Rq r q) w w') (0:Nat) ⟨Nat.zero_le _,by rw[Nat.zero_mul];exact f,X,c,d⟩ (by kernel_rfl) ?_
  clear d c X f;rintro i v6 ⟨hi,f,X,c,d⟩;have l:=c.lt;have z:=X.lt;have v:=f.lt;refine sr ?_
  by_cases ci:(i:Int) < ((m:Nat):Int)
  ·have g:i < m:=by omega
   refine tq 25 (.bool (decide ((i:Int) < ((m:Nat):Int)))) (bT) (congrArg Value.bool (decide_eq_true ci))<|nt<|ag<|aJ<|aU<|ai<|ag<|aB<|sr<|tz 2<|nt<|aN<|tz 3 ?_
   have J:=X.lt;have l:=c.lt;have v:=f.lt;refine tc 30 23 #[pg r] (rFound (s:=(rN (i * 3) s2).2) X c x) ?_
   rintro _ O ⟨H,F,E,u,p,rfl,o,U⟩;refine⟨_,rfl,?_⟩;replace d:=vU d U;replace X:=But.blk U X (show r≠q by omega);replace f:=But.blk U f (show gl≠q by omega);clear U;clear c;have c:=o;clear o;refine tr 31 (pq gl (i * 3)) (wG (by simp) (qD 3 gl 0 m m i g))<|ts f (i * 3) (.agg #[iU H,iU F,iU E]) [iU H,iU F,iU E] (cR (m * 3) (i * 3+3) s2) ?_ (hb:=uk (k:=3) (by omega) rfl) (he:=uj (k:=3) (by omega) (by rw[p];rfl))
   intro L Y C;replace d:=vN d C (by omega);replace c:=RdA.gq c f (by first | rfl | exact dW _ _ _) (by omega) (cF C);replace X:=X.chg C (show r≠gl by omega);have f:=Y;refine aO<|dc<|ai<|aN<|tq 32 (iI (IntKind.i64.wrap ((i:Int)+1))) (iI ((i:Int)+1)) (wi (by omega))<|tz 1<|aO ?_
   exact bQ (i+1) (by show m - (i+1) < m - i;omega) ⟨g,by rw[show (i+1) * 3=i * 3+3 by omega];exact f,X,(show (rN ((i+1) * 3) s2).2=u by rw[show (i+1) * 3=i * 3+3 by omega,nE,p])▸c,d⟩ (by kernel_rfl)
  ·refine tq 25 (.bool (decide ((i:Int) < ((m:Nat):Int)))) (bF) (congrArg Value.bool (decide_eq_false ci))<|nt<|ag<|aY<|bR<|bC<|bC<|dm<|ai<|sr<|tz 2<|nr<|ah (.slice (some ⟨gl,0,none⟩) m m) (rs1 6) ?_
   have y:i=m:=by omega
   subst y
   have D:rL 64 3 s=(((i:Int),(rN (i * 3) s2).1),(rN (i * 3) s2).2):=by unfold rL;rw[j];exact if_pos (by simp only;omega)
   rw[pK] at f;exact⟨_,_,gl,_,_,_,D,rfl,by have e:decide ((i:Int)<=64)=true:=decide_eq_true (by omega);rw[e,Bool.not_true,Bool.or_false];exact X,c,d,.inr ⟨rfl,t,f,by rw[gF]⟩⟩
end
end Gn
end Go.Proofs.YtpoifdokmjhclaaGreat
