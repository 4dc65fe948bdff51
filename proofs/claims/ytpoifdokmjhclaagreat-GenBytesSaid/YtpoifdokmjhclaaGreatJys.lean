import Derived.Test.YtpoifdokmjhclaaGreatJyr
set_option maxRecDepth 100000
set_option maxHeartbeats 8000000
namespace Go.Proofs.YtpoifdokmjhclaaGreat
section
namespace Gn
open Go.RowKit Go.Lib Pg Lim Gl Mg
attribute [local go_sem] Oper.semAt_some
set_option linter.unusedVariables false
set_option linter.unusedSimpArgs false
section
variable {B n k b c g o:Nat}{w w':World}{v:Value}{A l xs:List Int}{ao:Option Addr}
theorem Ow.sh{E:TypeId}(h:Ow B w v n k A E):∃ a c,v=.slice a n c:=by
 obtain⟨h1,h2⟩:=h.ex;rcases h2 with⟨rfl,rfl⟩ | ⟨g,cap,cur,rfl,_⟩
 ·exact⟨none,0,rfl⟩
 exact⟨_,_,rfl⟩
theorem byC(A:ByA w b ao n c l)(C:Chg (·=g) w w')(h:b≠g:=by omega):ByA w' b ao n c l:=by
 obtain⟨o,j,d,e,f,a⟩:=A.ex;refine⟨o,j,d,e,f,a.loc,λi hi=>?_⟩;have hc:=a.cell i hi;rw[World.cell?_of_block (w:=w) (C.same b (aC hc) h)];exact hc
theorem by_o(A:ByA w b ao n c l):aJ l:=by
 obtain⟨o,h1,h2,h3,h4,h5⟩:=A.ex;exact h4
theorem nlU(N:Nl w ao n k b o l)(U:But g w w')(hb:0 < n->b≠g):Nl w' ao n k b o l:=⟨N.len,N.ptr,λi hi=>by
 have hc:=N.cell i hi;rw[World.cell?_of_block (w:=w) (U.block b (aC hc) (hb (by rcases Nat.eq_zero_or_pos n with h | h;(rw[h] at hi;omega);exact h)))]
 exact hc,N.rng⟩
theorem l4(N:Nl w ao n k b o l)(C:Chg (· = g) w w')(hb:0 < n->b≠g):Nl w' ao n k b o l:=⟨N.len,N.ptr,λi hi=>by
 have hc:=N.cell i hi;rw[World.cell?_of_block (w:=w) (C.same b (aC hc) (hb (by rcases Nat.eq_zero_or_pos n with h | h;(rw[h] at hi;omega);exact h)))]
 exact hc,N.rng⟩
theorem appP(h:Ow B w v n 2 A 43)(X:Blk w g (xs.map (Value.int .u64)) 43)(hx:xs.length=2)(hn:n≤1000000)(b:B≤w.heap.size):∃ v' w',(Builtin.append_ #[25,25] 25 #[v,sg 1 g]).run Tryz.prog w=.ok v' w'∧Ow B w' v' (n+1) 2 (A ++ xs) 43∧Gt 43 B w w':=by
  cases hi:Tryz.prog.info? 43 with
  | none => exact absurd hi (by intro h; have : (Tryz.prog.info? 43).isSome = true := by kernel_rfl
                                rw[h] at this;cases this)
  | some i =>
    have a:(Tryz.prog.info? 43).map (λi=>(i.zero,i.size,i.bytes))=some (some (.agg #[.int .u64 0,.int .u64 0]),2,16):=by kernel_rfl
    rw[hi] at a;simp only[Option.map_some,Option.some.injEq,Prod.mk.injEq] at a;exact zD 16 h X hx (by kernel_rfl) hi a.1 a.2.1 a.2.2 rfl hn b
theorem appF(h:Ow B w v n 3 A 45)(X:Blk w g (xs.map (Value.int .u64)) 45)(hx:xs.length=3)(hn:n≤1000000)(b:B≤w.heap.size):∃ v' w',(Builtin.append_ #[26,26] 26 #[v,sg 1 g]).run Tryz.prog w=.ok v' w'∧Ow B w' v' (n+1) 3 (A ++ xs) 45∧Gt 45 B w w':=by
  cases hi:Tryz.prog.info? 45 with
  | none => exact absurd hi (by intro h; have : (Tryz.prog.info? 45).isSome = true := by kernel_rfl
                                rw[h] at this;cases this)
  | some i =>
    have a:(Tryz.prog.info? 45).map (λi=>(i.zero,i.size,i.bytes))=some (some (.agg #[.int .u64 0,.int .u64 0,.int .u64 0]),3,24):=by kernel_rfl
    rw[hi] at a;simp only[Option.map_some,Option.some.injEq,Prod.mk.injEq] at a;exact zD 24 h X hx (by kernel_rfl) hi a.1 a.2.1 a.2.2 rfl hn b
theorem rU_sh{m:Nat}{s s':St}{x:Int}(e:rU m s=(x,s')):s'.2.length<=s.2.length:=by
 have h:=congrArg (λp=>p.2.2) e;simp only[rU] at h;rw[<- h]
 cases hq:cA m s.2 with
 | inl v=>simp[rdL]
 | inr v=>simp only[rdL];split<;>simp
theorem CE:Nl w none 0 k 0 0 []:=⟨by simp,λh=>absurd h (by decide),λi hi=>absurd hi (by omega),λ_ h=>absurd h List.not_mem_nil⟩
theorem back21{g:Ge}{na nv:Nat}(h:g.Ok na nv)(d:na<=256)(hv:nv<=64):eD (bG g na nv)=0/\gD (bG g na nv)=g/\True:=by
 obtain⟨-,a,b,c,-,-⟩:=d_back h d hv [];rw[List.append_nil] at a b c;have e:=uo h;refine⟨?_,a,trivial⟩;unfold eD;rw[if_neg (by omega),b,c];rfl
abbrev RP(w:World)(l:List Int)(e:Ending)(w':World):Prop:=∃ p0 p1 p2 p3 p4 p5 p6 p7 p8 p9 a1 m1 c1 g1 a2 m2 c2 g2 A V,e=.returned (.tuple #[.agg #[.int .u64 p0,.int .u64 p1,.int .u64 p2,.int .u64 p3,.int .u64 p4,.int .u64 p5,.int .u64 p6,.int .u64 p7,.int .u64 p8,.int .u64 p9,.slice a1 m1 c1,.slice a2 m2 c2],.int .i64 (eD l)])/\(⟨[p0,p1,p2,p3,p4,p5,p6,p7,p8,p9],A,V⟩:Ge)=(if eD l=0 then gD l else zG)/\Nl w' a1 m1 2 g1 0 A/\Nl w' a2 m2 3 g2 0 V/\(0 < m1->w.heap.size<=g1)/\(0 < m2->w.heap.size<=g2)/\BW w w'
theorem zR{r:Int}(h:eD l=r)(hr:r≠0)(f:BW w w'):RP w l (.returned (.tuple #[.agg #[.int .u64 0,.int .u64 0,.int .u64 0,.int .u64 0,.int .u64 0,.int .u64 0,.int .u64 0,.int .u64 0,.int .u64 0,.int .u64 0,.slice none 0 0,.slice none 0 0],.int .i64 r])) w':=by
 subst h;exact⟨0,0,0,0,0,0,0,0,0,0,none,0,0,0,none,0,0,0,[],[],rfl,by rw[if_neg hr];rfl,CE,CE,λh=>absurd h (by decide),λh=>absurd h (by decide),f⟩
theorem rdec21(A:ByA w b ao n c l)(hn:n<=1000000000):CP 9 #[.slice ao n c] w (RP w l):=by
 have f:=Below.refl w.heap.size w
 have hl:l.length=n:=by
  obtain⟨o,h1,_⟩:=A.ex;exact h1
 have ho:aJ l:=by_o A;refine af (n:=109) Tryz.func9 rfl ?_
 refine sr<|ta 2 cl0 28 (pg) ?_
 intro v1 g2 d hg2 B;have zg2:=Nat.le_trans f.size hg2;have f:=ae f B;refine tz 1<|nt<|ag<|sr<|tz 2 ?_
 by_cases cz3:(65536:Int) < ((n:Nat):Int)
 ·refine tq 13 (.bool (decide ((65536:Int) < ((n:Nat):Int)))) (bT) (congrArg Value.bool (decide_eq_true cz3))<|nt<|aL<|sr<|tz 1<|tsw d cl0 ?_
  intro v5 Y C;have f:=aF f C;have d:=Y;refine tz 1<|nr<|bE<|ah (.tuple #[.agg #[iU 0,iU 0,iU 0,iU 0,iU 0,iU 0,iU 0,iU 0,iU 0,iU 0,zS,zS],iI 211]) (dk (T:=28) 2 3 (lr d 0)) ?_
  exact zR (zm) (by decide) f
 refine tq 13 (.bool (decide ((65536:Int) < ((n:Nat):Int)))) (bF) (congrArg Value.bool (decide_eq_false cz3))<|nt<|nk<|sr<|tz 2 ?_
 have z:=d.lt;refine ta 17 [.slice ao n c,iI 0] 70 (pg) ?_
 intro v7 u Xg8 hg8 B;have zg8:=Nat.le_trans f.size hg8;have f:=ae f B;have d:=d.keep B;have g:=rf_box Xg8 (A.keep f);have lRD:=g.lt;refine tz 1<|nx ?_
 have z:=d.lt;have lRD:=g.lt;refine ta 5 cl0 28 (pg) ?_
 intro v9 q a hg10 B;have zg10:=Nat.le_trans f.size hg10;have f:=ae f B;have d:=d.keep B;have g:=g.keep B;refine nt<|ag<|sr<|tz 1<|tc 19 25 #[pg u,iI 4] (yU4 (s:=((0:Int),l)) g) ?_
 rintro _ v13 ⟨x11,s12,Ex11,Hx11,rfl,RX,U⟩;refine⟨_,rfl,?_⟩;have f:=But.below U f (by omega) (Nat.le_refl _);have d:=But.blk U d (by omega);have a:=But.blk U a (by omega);have g:=RX
 have os12:aJ s12.2:=g.oct;by_cases cz14:(x11:Int)=1196183089
 ·obtain⟨l1,hs1,hlne⟩:=mk_ok Ex11 cz14
  have hl1:l1.length<=l.length:=by
   have:=rU_sh (m:=4) (s:=((0:Int),l)) Ex11;rw[hs1] at this;exact this
  subst hs1
  have E0:rU 4 (0,l)=(1196183089,0,l1):=by rw[Ex11,cz14]
  have hbB:b < w.heap.size:=Ct A hlne;refine tq 20 (.bool ((x11:Int) != 1196183089)) (bF) (congrArg Value.bool (bne_eq_false_iff_eq.2 cz14))<|tz 4 ?_
  obtain⟨ra,rn,rc,XR0,AR⟩:=g.ex
  have XR:Blk v13 u [.slice ra rn rc,iI ((0:Int),l1).1] 70:=⟨XR0.blk⟩
  have hrn:l1.length=rn:=by
   obtain⟨_,h1,_⟩:=AR.ex;exact h1
  have hrm:l1.length<=1000000:=Nat.le_trans hl1 (by omega);refine tl 25 (.slice ra rn rc) XR 0<|tz 1 ?_
  by_cases cz16:((rn:Nat):Int) < 80
  ·refine tq 27 (.bool (decide (((rn:Nat):Int) < 80))) (bT) (congrArg Value.bool (decide_eq_true cz16))<|tz 1<|nt<|aA [(0,.slice ao n c),(2,pg g2),(3,iI 0),(4,pg u),(5,pg q),(28,bT)]<|aL<|sr<|tz 1<|tsw d cl0 ?_
   intro v18 Y C;have f:=aF f C;have a:=a.chg C (by omega);have XR:=XR.chg C (by omega);have AR:=byC AR C;have d:=Y;refine tz 1<|nr<|bE<|ah (.tuple #[.agg #[iU 0,iU 0,iU 0,iU 0,iU 0,iU 0,iU 0,iU 0,iU 0,iU 0,zS,zS],iI 210]) (dk (T:=28) 2 3 (lr d 0)) ?_
   exact zR (oQ (ex2 ho E0 (by omega))) (by decide) f
  refine tq 27 (.bool (decide (((rn:Nat):Int) < 80))) (bF) (congrArg Value.bool (decide_eq_false cz16))<|tz 1<|nt<|aA [(0,.slice ao n c),(2,pg g2),(3,iI 0),(4,pg u),(5,pg q),(28,bF)]<|nk<|ag ?_
  obtain⟨f0,rfl,hc80,hnc,AH,AT⟩:=by80 AR (by omega);obtain⟨p0,p1,S,R,M,W,p6,O,p8,Z,E2,eT,hP⟩:=w8_80 (by_o AR) (show 80<=l1.length by omega);refine aN<|tz 3<|tl 34 (.slice (some ⟨b,f0,none⟩) rn rc) XR 0<|tr 35 (.slice (some ⟨b,f0,none⟩) 80 rc) (Ez (n:=rn) (by omega))<|tc 36 26 #[.slice (some ⟨b,f0,none⟩) 80 rc] (DJ AH eT hP) ?_
  rintro _ v20 ⟨rfl,B⟩;have f:=ae f B;have d:=d.keep B;have a:=a.keep B;have XR:=XR.keep B;have AR:=AR.keep B;have AH:=AH.keep B;have AT:=AT.keep B;refine⟨_,rfl,tz 4<|ts a 0 (.agg #[iU p0,iU p1,iU S,iU R,iU M,iU W,iU p6,iU O,iU p8,iU Z]) [iU p0,iU p1,iU S,iU R,iU M,iU W,iU p6,iU O,iU p8,iU Z] [iU p0,iU p1,iU S,iU R,iU M,iU W,iU p6,iU O,iU p8,iU Z,zS,zS] ?_⟩;intro v21 Y C;have f:=aF f C;have d:=d.chg C (by omega);have XR:=XR.chg C (by omega);have AR:=byC AR C;have AH:=byC AH C;have AT:=byC AT C;have a:=Y;refine nx<|tz 4<|tl 44 (.slice (some ⟨b,f0,none⟩) rn rc) XR 0<|tr 45 (.slice (some ⟨b,if rc=80 then f0 else f0+80,none⟩) (rn - 80) (rc - 80)) (FJ (n:=rn) (c:=rc) (by omega) (by omega))<|tz 2<|ts XR 0 (.slice (some ⟨b,if rc=80 then f0 else f0+80,none⟩) (rn - 80) (rc - 80)) [.slice (some ⟨b,if rc=80 then f0 else f0+80,none⟩) (rn - 80) (rc - 80)] [.slice (some ⟨b,if rc=80 then f0 else f0+80,none⟩) (rn - 80) (rc - 80),iI ((0:Int),l1).1] ?_
  intro v22 Y C;have f:=aF f C;have d:=d.chg C (by omega);have a:=a.chg C (by omega);have AR:=byC AR C;have AH:=byC AH C;have AT:=byC AT C;have XR:=Y;refine nt<|aA [(0,.slice ao n c),(2,pg g2),(3,iI 0),(4,pg u),(5,pg q)]<|ag ?_
  have g:RfA v22 u b ((0:Int),l1.drop 80).1 ((0:Int),l1.drop 80).2:=⟨_,_,_,⟨XR.blk⟩,AT⟩
  have lRD:=g.lt;refine aN<|tz 1<|tc 49 25 #[pg u,iI 4] (yU4 (s:=((0:Int),l1.drop 80)) g) ?_
  rintro _ v25 ⟨x23,X,Ex23,Hx23,rfl,RX,U⟩;have f:=But.below U f (by omega) (Nat.le_refl _);have d:=But.blk U d (by omega);have a:=But.blk U a (by omega);have g:=RX
  have os24:aJ X.2:=g.oct;refine⟨_,rfl,tr 50 (iI x23) (G0 x23 ⟨by omega,by omega⟩)<|tz 1<|nt<|ag<|sr<|tz 1 ?_⟩;by_cases cz26:(256:Int) < x23
  ·refine tq 52 (.bool (decide ((256:Int) < x23))) (bT) (congrArg Value.bool (decide_eq_true cz26))<|nt<|aL<|sr<|tz 1<|tsw d cl0 ?_
   intro v28 Y C;have f:=aF f C;have a:=a.chg C (by omega);have g:=RfA.dc g d rfl (by omega) (aU C);have d:=Y;refine tz 1<|nr<|bE<|ah (.tuple #[.agg #[iU 0,iU 0,iU 0,iU 0,iU 0,iU 0,iU 0,iU 0,iU 0,iU 0,zS,zS],iI 210]) (dk (T:=28) 2 3 (lr d 0)) ?_
   exact zR (oQ (ex3 ho E0 Ex23 (by omega))) (by decide) f
  refine tq 52 (.bool (decide ((256:Int) < x23))) (bF) (congrArg Value.bool (decide_eq_false cz26))<|nt<|nk<|ag<|ag ?_
  obtain⟨p,hm0⟩:=Int.eq_ofNat_of_zero_le Hx23.1;subst hm0;refine aN<|tz 1<|nt<|aB<|bI (λs=>p - s.2.2) (fun(s:Option Addr × Nat × Nat)=>[(0,.slice ao n c),(2,pg g2),(4,pg u),(5,pg q),(6,iI ((p:Nat):Int)),(7,iI ((s.2.2:Nat):Int))]) (λs w'=>s.2.2<=p/\Blk w' g2 cl0 28/\Blk w' q [iU p0,iU p1,iU S,iU R,iU M,iU W,iU p6,iU O,iU p8,iU Z,.slice s.1 s.2.2 s.2.1,zS] 28/\RfA w' u b (rN (s.2.2 * 2) X).2.1 (rN (s.2.2 * 2) X).2.2/\Ow w.heap.size w' (.slice s.1 s.2.2 s.2.1) s.2.2 2 (rN (s.2.2 * 2) X).1 43/\BW w w') ((none,0,0):Option Addr × Nat × Nat) ⟨Nat.zero_le _,d,a,g,Ow.nil,f⟩ (by kernel_rfl) ?_
  rintro⟨E,D,i0⟩ v30 ⟨hi0,d,a,g,j,f⟩;dsimp only at hi0 a g j;have lRD:=g.lt;have z:=d.lt;have y:=a.lt;refine ag<|sr<|tz 2 ?_
  by_cases cz31:(i0:Int) < ((p:Nat):Int)
  ·refine tq 56 (.bool (decide ((i0:Int) < ((p:Nat):Int)))) (bT) (congrArg Value.bool (decide_eq_true cz31))<|nt<|aL<|aT<|aj<|ag<|aB<|sr<|tz 1<|tc 60 25 #[pg u,iI 8] (yU8 (s:=(rN (i0 * 2) X).2) g) ?_
   rintro _ v35 ⟨x33,s34,Ex33,rfl,RX,U⟩;have f:=But.below U f (by omega) (Nat.le_refl _);have d:=But.blk U d (by omega);have a:=But.blk U a (by omega);have j:=j.rf g (by decide) U;have g:=RX;refine⟨_,rfl,tz 1 ?_⟩;have lRD:=g.lt;have z:=d.lt;have y:=a.lt;have lO0:=j.lt;refine ta 8 cl5 43 (pg) ?_
   intro v36 g37 k hg37 B;have zg37:=Nat.le_trans f.size hg37;have f:=ae f B;have g:=g.keep B;have d:=d.keep B;have a:=a.keep B;have j:=j.keep B;refine tsw k [iU x33,iU 0] ?_
   intro v38 Y C;have j:=j.chg C (λe=>by have:=lO0 _ e;omega);have f:=aF f C;have g:=RfA.dc g k rfl (by omega) (aU C);have d:=d.chg C (by omega);have a:=a.chg C (by omega);have k:=Y;refine nx<|tz 1<|tc 63 25 #[pg u,iI 8] (yU8 (s:=s34) g) ?_
   rintro _ v41 ⟨P,s40,Ex39,rfl,RX,U⟩;have f:=But.below U f (by omega) (Nat.le_refl _);have d:=But.blk U d (by omega);have a:=But.blk U a (by omega);have j:=j.rf g (by decide) U;have k:=But.blk U k (by omega);have g:=RX;refine⟨_,rfl,tz 1<|ts k 1 (iU P) [iU P] [iU x33,iU P] ?_⟩;intro v42 Y C;have j:=j.chg C (λe=>by have:=lO0 _ e;omega);have f:=aF f C;have g:=RfA.dc g k rfl (by omega) (aU C);have d:=d.chg C (by omega);have a:=a.chg C (by omega);have k:=Y;refine nt<|aN<|tz 1<|tl 66 (.slice E i0 D) a 10<|tlr 67 [iU x33,iU P] k 0 ?_
   have lRD:=g.lt;have z:=d.lt;have y:=a.lt;have lO0:=j.lt;have lXg37:=k.lt;refine ta 68 [iU x33,iU P] 43 (sg 1) ?_
   intro v43 g44 Xg44 hg44 B;have zg44:=Nat.le_trans f.size hg44;have f:=ae f B;have g:=g.keep B;have d:=d.keep B;have a:=a.keep B;have j:=j.keep B;have k:=k.keep B;obtain⟨Uv45,v45,hr,OX,G⟩:=appP j (xs:=[x33,P]) Xg44 rfl (by omega) f.size;obtain⟨I,J,huv45⟩:=OX.sh;subst huv45;refine tw 69 (.slice I (i0+1) J) _ (mw 25 hr) ?_
   have f:=Gt.below G f (Nat.le_refl _) (Nat.le_refl _);have g:=rfG g hbB G;have d:=bkG d G;have a:=bkG a G;have j:=OX;refine tz 1<|ts a 10 (.slice I (i0+1) J) [.slice I (i0+1) J] [iU p0,iU p1,iU S,iU R,iU M,iU W,iU p6,iU O,iU p8,iU Z,.slice I (i0+1) J,zS] ?_
   intro v46 Y C;have j:=j.typ a (by decide) C;have f:=aF f C;have g:=RfA.dc g a rfl (by omega) (aU C);have d:=d.chg C (by omega);have a:=Y;refine aO<|cX<|aj<|aA [(0,.slice ao n c),(2,pg g2),(4,pg u),(5,pg q),(6,iI ((p:Nat):Int)),(7,iI (i0:Int)),(8,pg g37),(54,iI (i0:Int)),(55,iI ((p:Nat):Int)),(56,bT),(59,pg u),(60,iU x33),(61,.agg #[iU x33,iU 0]),(62,pg u),(63,iU P),(64,pq g37 1),(65,pq q 10),(66,.slice E i0 D),(67,.agg #[iU x33,iU P]),(68,sg 1 g44),(69,.slice I (i0+1) J),(70,pq q 10)]<|aN<|tz 1<|tq 58 (iI (IntKind.i64.wrap ((i0:Int)+1))) (iI ((i0:Int)+1)) (wi (by omega))<|tz 1<|aO ?_
   have eR:rN ((i0+1) * 2) X=((rN (i0 * 2) X).1 ++ [x33,P],s40):=by
    rw[show (i0+1) * 2=i0 * 2+2 by omega,jD,rN2 Ex33 Ex39]
   exact bH ((I,J,i0+1):Option Addr × Nat × Nat) ⟨by show i0+1<=p;omega,d,a,by rw[eR];exact g,by rw[eR];exact j,f⟩ (by kernel_rfl) (hm:=by show p - (i0+1) < p - i0;omega)
  refine tq 56 (.bool (decide ((i0:Int) < ((p:Nat):Int)))) (bF) (congrArg Value.bool (decide_eq_false cz31))<|nt<|aX<|bQ<|bC<|bC<|dg<|aj<|ag ?_
  obtain rfl:p=i0:=by omega
  obtain⟨A0,sA0,eA0⟩:∃ A0 sA0,rN (p * 2) X=(A0,sA0):=⟨_,_,rfl⟩
  rw[eA0] at g j
  have rA0:∀ x∈A0,In8 x:=by
   have:=(kV (p * 2) X os24).1.2;rw[eA0] at this;exact this
  have osA0:aJ sA0.2:=g.oct;refine aN<|tz 1<|tc 72 25 #[pg u,iI 4] (yU4 (s:=sA0) g) ?_
  rintro _ v50 ⟨x48,V,Ex48,Hx48,rfl,RX,U⟩;have f:=But.below U f (by omega) (Nat.le_refl _);have d:=But.blk U d (by omega);have a:=But.blk U a (by omega);have j:=j.rf g (by decide) U;have g:=RX
  have os49:aJ V.2:=g.oct;refine⟨_,rfl,tr 73 (iI x48) (G0 x48 ⟨by omega,by omega⟩)<|tz 1<|nt<|ag<|sr<|tz 1 ?_⟩;by_cases cz51:(64:Int) < x48
  ·refine tq 75 (.bool (decide ((64:Int) < x48))) (bT) (congrArg Value.bool (decide_eq_true cz51))<|nt<|aL<|sr<|tz 1<|tsw d cl0 ?_
   intro v53 Y C;have j:=j.typ d (by decide) C;have f:=aF f C;have g:=RfA.dc g d rfl (by omega) (aU C);have a:=a.chg C (by omega);have d:=Y;refine tz 1<|nr<|bE<|ah (.tuple #[.agg #[iU 0,iU 0,iU 0,iU 0,iU 0,iU 0,iU 0,iU 0,iU 0,iU 0,zS,zS],iI 210]) (dk (T:=28) 2 3 (lr d 0)) ?_
   exact zR (oQ (ex4 ho E0 Ex23 eA0 Ex48 (by omega))) (by decide) f
  refine tq 75 (.bool (decide ((64:Int) < x48))) (bF) (congrArg Value.bool (decide_eq_false cz51))<|nt<|nk<|ag<|ag ?_
  obtain⟨r,hm1⟩:=Int.eq_ofNat_of_zero_le Hx48.1;subst hm1;refine aN<|tz 1<|nt<|aB<|bI (λs=>r - s.2.2) (fun(s:Option Addr × Nat × Nat)=>[(0,.slice ao n c),(2,pg g2),(4,pg u),(5,pg q),(6,iI ((r:Nat):Int)),(9,iI ((s.2.2:Nat):Int))]) (λs w'=>s.2.2<=r/\Blk w' g2 cl0 28/\Blk w' q [iU p0,iU p1,iU S,iU R,iU M,iU W,iU p6,iU O,iU p8,iU Z,.slice E p D,.slice s.1 s.2.2 s.2.1] 28/\RfA w' u b (rN (s.2.2 * 3) V).2.1 (rN (s.2.2 * 3) V).2.2/\Ow w.heap.size w' (.slice s.1 s.2.2 s.2.1) s.2.2 3 (rN (s.2.2 * 3) V).1 45/\Ow w.heap.size w' (.slice E p D) p 2 A0 43/\BW w w') ((none,0,0):Option Addr × Nat × Nat) ⟨Nat.zero_le _,d,a,g,Ow.nil,j,f⟩ (by kernel_rfl) ?_
  rintro⟨a1_,c1_,i1⟩ v55 ⟨hi1,d,a,g,v,j,f⟩;dsimp only at hi1 a g v;have lRD:=g.lt;have z:=d.lt;have y:=a.lt;refine ag<|sr<|tz 2 ?_
  by_cases cz56:(i1:Int) < ((r:Nat):Int)
  ·refine tq 79 (.bool (decide ((i1:Int) < ((r:Nat):Int)))) (bT) (congrArg Value.bool (decide_eq_true cz56))<|nt<|aL<|aT<|aj<|ag<|aB<|sr<|tz 1<|tc 83 25 #[pg u,iI 8] (yU8 (s:=(rN (i1 * 3) V).2) g) ?_
   rintro _ v60 ⟨F,s59,Ex58,rfl,RX,U⟩;have f:=But.below U f (by omega) (Nat.le_refl _);have d:=But.blk U d (by omega);have a:=But.blk U a (by omega);have v:=v.rf g (by decide) U;have j:=j.rf g (by decide) U;have g:=RX;refine⟨_,rfl,tz 1 ?_⟩;have lRD:=g.lt;have z:=d.lt;have y:=a.lt;have lO1:=v.lt;have lO0:=j.lt;refine ta 10 [iU 0,iU 0,iU 0] 45 (pg) ?_
   intro v61 g62 i hg62 B;have zg62:=Nat.le_trans f.size hg62;have f:=ae f B;have g:=g.keep B;have d:=d.keep B;have a:=a.keep B;have v:=v.keep B;have j:=j.keep B;refine tsw i [iU F,iU 0,iU 0] ?_
   intro v63 Y C;have v:=v.chg C (λe=>by have:=lO1 _ e;omega);have j:=j.typ i (by decide) C;have f:=aF f C;have g:=RfA.dc g i rfl (by omega) (aU C);have d:=d.chg C (by omega);have a:=a.chg C (by omega);have i:=Y;refine nx<|tz 1<|tc 86 25 #[pg u,iI 8] (yU8 (s:=s59) g) ?_
   rintro _ v66 ⟨H,s65,Ex64,rfl,RX,U⟩;have f:=But.below U f (by omega) (Nat.le_refl _);have d:=But.blk U d (by omega);have a:=But.blk U a (by omega);have v:=v.rf g (by decide) U;have j:=j.rf g (by decide) U;have i:=But.blk U i (by omega);have g:=RX;refine⟨_,rfl,tz 1<|ts i 1 (iU H) [iU H] [iU F,iU H,iU 0] ?_⟩;intro v67 Y C;have v:=v.chg C (λe=>by have:=lO1 _ e;omega);have j:=j.typ i (by decide) C;have f:=aF f C;have g:=RfA.dc g i rfl (by omega) (aU C);have d:=d.chg C (by omega);have a:=a.chg C (by omega);have i:=Y;refine nx<|tz 1<|tc 89 25 #[pg u,iI 8] (yU8 (s:=s65) g) ?_
   rintro _ v70 ⟨Q,s69,Ex68,rfl,RX,U⟩;have f:=But.below U f (by omega) (Nat.le_refl _);have d:=But.blk U d (by omega);have a:=But.blk U a (by omega);have v:=v.rf g (by decide) U;have j:=j.rf g (by decide) U;have i:=But.blk U i (by omega);have g:=RX;refine⟨_,rfl,tz 1<|ts i 2 (iU Q) [iU Q] [iU F,iU H,iU Q] ?_⟩;intro v71 Y C;have v:=v.chg C (λe=>by have:=lO1 _ e;omega);have j:=j.typ i (by decide) C;have f:=aF f C;have g:=RfA.dc g i rfl (by omega) (aU C);have d:=d.chg C (by omega);have a:=a.chg C (by omega);have i:=Y;refine nt<|aN<|tz 1<|tl 92 (.slice a1_ i1 c1_) a 11<|tlr 93 [iU F,iU H,iU Q] i 0 ?_
   have lRD:=g.lt;have z:=d.lt;have y:=a.lt;have lO1:=v.lt;have lO0:=j.lt;have lXg62:=i.lt;refine ta 94 [iU F,iU H,iU Q] 45 (sg 1) ?_
   intro v72 g73 Xg73 hg73 B;have zg73:=Nat.le_trans f.size hg73;have f:=ae f B;have g:=g.keep B;have d:=d.keep B;have a:=a.keep B;have v:=v.keep B;have j:=j.keep B;have i:=i.keep B;obtain⟨Uv74,v74,hr,OX,G⟩:=appF v (xs:=[F,H,Q]) Xg73 rfl (by omega) f.size;obtain⟨K,L,huv74⟩:=OX.sh;subst huv74;refine tw 95 (.slice K (i1+1) L) _ (mw 26 hr) ?_
   have f:=Gt.below G f (Nat.le_refl _) (Nat.le_refl _);have g:=rfG g hbB G;have d:=bkG d G;have a:=bkG a G;have j:=j.gt G (by decide);have v:=OX;refine tz 1<|ts a 11 (.slice K (i1+1) L) [.slice K (i1+1) L] [iU p0,iU p1,iU S,iU R,iU M,iU W,iU p6,iU O,iU p8,iU Z,.slice E p D,.slice K (i1+1) L] ?_
   intro v75 Y C;have j:=j.typ a (by decide) C;have v:=v.typ a (by decide) C;have f:=aF f C;have g:=RfA.dc g a rfl (by omega) (aU C);have d:=d.chg C (by omega);have a:=Y;refine aO<|cX<|aj<|aA [(0,.slice ao n c),(2,pg g2),(4,pg u),(5,pg q),(6,iI ((r:Nat):Int)),(9,iI (i1:Int)),(10,pg g62),(77,iI (i1:Int)),(78,iI ((r:Nat):Int)),(79,bT),(82,pg u),(83,iU F),(84,.agg #[iU F,iU 0,iU 0]),(85,pg u),(86,iU H),(87,pq g62 1),(88,pg u),(89,iU Q),(90,pq g62 2),(91,pq q 11),(92,.slice a1_ i1 c1_),(93,.agg #[iU F,iU H,iU Q]),(94,sg 1 g73),(95,.slice K (i1+1) L),(96,pq q 11)]<|aN<|tz 1<|tq 81 (iI (IntKind.i64.wrap ((i1:Int)+1))) (iI ((i1:Int)+1)) (wi (by omega))<|tz 1<|aO ?_
   have eR:rN ((i1+1) * 3) V=((rN (i1 * 3) V).1 ++ [F,H,Q],s69):=by
    rw[show (i1+1) * 3=i1 * 3+3 by omega,jD,rN3 Ex58 Ex64 Ex68]
   exact bH ((K,L,i1+1):Option Addr × Nat × Nat) ⟨by show i1+1<=r;omega,d,a,by rw[eR];exact g,by rw[eR];exact v,j,f⟩ (by kernel_rfl) (hm:=by show r - (i1+1) < r - i1;omega)
  refine tq 79 (.bool (decide ((i1:Int) < ((r:Nat):Int)))) (bF) (congrArg Value.bool (decide_eq_false cz56))<|nt<|aX<|bQ<|bC<|bC<|dg<|aj<|ag<|ag ?_
  obtain rfl:r=i1:=by omega
  obtain⟨A1,N,eA1⟩:∃ A1 N,rN (r * 3) V=(A1,N):=⟨_,_,rfl⟩
  rw[eA1] at g v
  have rA1:∀ x∈A1,In8 x:=by
   have:=(kV (r * 3) V os49).1.2;rw[eA1] at this;exact this
  have osA1:aJ N.2:=g.oct;obtain⟨la0,lc0,lg0,hv0,N0,hg0,hx0⟩:=j.nl rA0;obtain⟨rfl,rfl⟩:E=la0/\D=lc0:=by cases hv0;exact⟨rfl,rfl⟩
  have kr0:0 < p->lg0≠u:=by
   obtain⟨_,_,_,XX,_⟩:=g.ex;exact hx0 _ _ _ ⟨XX.blk⟩ (by decide)
  have kA0:=hx0 _ _ _ d (by decide);have kB0:=hx0 _ _ _ a (by decide)
  have K0:0 < p->lg0 < v55.heap.size:=λh=>N0.lt h (by decide)
  obtain⟨la1,lc1,lg1,hv1,N1,hg1,hx1⟩:=v.nl rA1;obtain⟨rfl,rfl⟩:a1_=la1/\c1_=lc1:=by cases hv1;exact⟨rfl,rfl⟩
  have kr1:0 < r->lg1≠u:=by
   obtain⟨_,_,_,XX,_⟩:=g.ex;exact hx1 _ _ _ ⟨XX.blk⟩ (by decide)
  have kA1:=hx1 _ _ _ d (by decide);have kB1:=hx1 _ _ _ a (by decide)
  have K1:0 < r->lg1 < v55.heap.size:=λh=>N1.lt h (by decide)
  refine aN<|tz 1<|tc 98 27 #[pg u] (GF g) ?_
  rintro _ v77 ⟨rfl,RX,U⟩;refine⟨_,rfl,?_⟩;have f:=But.below U f (by omega) (Nat.le_refl _);have d:=But.blk U d (by omega);have a:=But.blk U a (by omega);have N0:=nlU N0 U (λh=>by have:=kr0 h;omega);have N1:=nlU N1 U (λh=>by have:=kr1 h;omega);by_cases cz78:(bS N.1 N.2:Int)=0
  ·refine tq 99 (.bool ((bS N.1 N.2:Int) != 0)) (bF) (congrArg Value.bool (bne_eq_false_iff_eq.2 cz78))<|tz 1<|tlr 101 [iU p0,iU p1,iU S,iU R,iU M,iU W,iU p6,iU O,iU p8,iU Z,.slice E p D,.slice a1_ r c1_] a 0<|tc 102 12 #[.agg #[iU p0,iU p1,iU S,iU R,iU M,iU W,iU p6,iU O,iU p8,iU Z,.slice E p D,.slice a1_ r c1_]] (zn N0 N1 (by omega) (by omega)) ?_
   rintro _ v80 ⟨VV,rfl,MV,B⟩;have f:=ae f B;have d:=d.keep B;have a:=a.keep B;have N0:=N0.keep B;have N1:=N1.keep B;obtain⟨bv,av,cv,hvv,-,AV⟩:=MV.bya (jo _ _ _);subst hvv;refine⟨_,rfl,t 103 (.slice ao n c) ?_⟩
   have ok21:Ge.Ok ⟨[p0,p1,S,R,M,W,p6,O,p8,Z],A0,A1⟩ p r:=⟨rfl,by have:=N0.len;exact this,by have:=N1.len;exact this,hP,rA0,rA1⟩
   refine tc 104 10 #[.slice av (bG ⟨[p0,p1,S,R,M,W,p6,O,p8,Z],A0,A1⟩ p r).length cv,.slice ao n c] (G9 AV (A.keep f) (by rw[uo ok21];omega)) ?_
   rintro _ v81 ⟨rfl,B⟩;have f:=ae f B;have d:=d.keep B;have a:=a.keep B;have N0:=N0.keep B;have N1:=N1.keep B;refine⟨_,rfl,t 105 (.bool (!(eqB (bG ⟨[p0,p1,S,R,M,W,p6,O,p8,Z],A0,A1⟩ p r) l)))<|t 106 (.bool (!(eqB (bG ⟨[p0,p1,S,R,M,W,p6,O,p8,Z],A0,A1⟩ p r) l)))<|nt ?_⟩;rcases Bool.eq_false_or_eq_true (!(eqB (bG ⟨[p0,p1,S,R,M,W,p6,O,p8,Z],A0,A1⟩ p r) l)) with b82 | b82
   ·refine aL (hc:=congrArg Value.bool b82)<|sr<|tz 1<|tsw d cl0 ?_
    intro v83 Y C;have f:=aF f C;have a:=a.chg C (by omega);have N0:=l4 N0 C (λh=>by have:=kA0 h;have:=kB0 h;omega);have N1:=l4 N1 C (λh=>by have:=kA1 h;have:=kB1 h;omega);have d:=Y;refine t 3 (iI 210)<|nr<|bE<|ah (.tuple #[.agg #[iU 0,iU 0,iU 0,iU 0,iU 0,iU 0,iU 0,iU 0,iU 0,iU 0,zS,zS],iI 210]) (dk (T:=28) 2 3 (lr d 0)) ?_
    exact zR (oQ (ex5 ho E0 E2 Ex23 eA0 Ex48 eA1 (.inr (λe=>by have:=b82;simp[eqB,e] at this)))) (by decide) f
   refine aX (hc:=congrArg Value.bool b82)<|aT<|aj<|sr<|tlr 108 [iU p0,iU p1,iU S,iU R,iU M,iU W,iU p6,iU O,iU p8,iU Z,.slice E p D,.slice a1_ r c1_] a 0<|tsw d [iU p0,iU p1,iU S,iU R,iU M,iU W,iU p6,iU O,iU p8,iU Z,.slice E p D,.slice a1_ r c1_] ?_
   intro v84 Y C;have f:=aF f C;have a:=a.chg C (by omega);have N0:=l4 N0 C (λh=>by have:=kA0 h;have:=kB0 h;omega);have N1:=l4 N1 C (λh=>by have:=kA1 h;have:=kB1 h;omega);have d:=Y;refine tz 1<|nr<|ah (.tuple #[.agg #[iU p0,iU p1,iU S,iU R,iU M,iU W,iU p6,iU O,iU p8,iU Z,.slice E p D,.slice a1_ r c1_],iI 0]) (dk (T:=28) 2 3 (lr d 0)) ?_
   have hbG:bG ⟨[p0,p1,S,R,M,W,p6,O,p8,Z],A0,A1⟩ p r=l:=by
    have:=b82;simpa[eqB] using this
   obtain⟨ED,GD,-⟩:=back21 ok21 (by omega) (by omega);rw[hbG] at ED GD;unfold RP;rw[ED];exact⟨p0,p1,S,R,M,W,p6,O,p8,Z,_,p,_,lg0,_,r,_,lg1,A0,A1,rfl,by rw[if_pos rfl,GD],N0,N1,hg0,hg1,f⟩
  refine tq 99 (.bool ((bS N.1 N.2:Int) != 0)) (bT) (congrArg Value.bool (bne_iff_ne.2 cz78))<|tz 1<|tn 101<|tn 102<|tn 103<|tn 104<|tn 105<|tz 1<|nt<|aL<|sr<|tz 1<|tsw d cl0 ?_
  intro v86 Y C;have f:=aF f C;have a:=a.chg C (by omega);have N0:=l4 N0 C (λh=>by have:=kA0 h;have:=kB0 h;omega);have N1:=l4 N1 C (λh=>by have:=kA1 h;have:=kB1 h;omega);have d:=Y;refine tz 1<|nr<|bE<|ah (.tuple #[.agg #[iU 0,iU 0,iU 0,iU 0,iU 0,iU 0,iU 0,iU 0,iU 0,iU 0,zS,zS],iI 210]) (dk (T:=28) 2 3 (lr d 0)) ?_
  exact zR (oQ (ex5 ho E0 E2 Ex23 eA0 Ex48 eA1 (.inl cz78))) (by decide) f
 refine tq 20 (.bool ((x11:Int) != 1196183089)) (bT) (congrArg Value.bool (bne_iff_ne.2 cz14))<|tz 1<|tn 22<|tn 23<|tn 24<|tn 25<|tn 26<|tn 27<|tz 1<|nt<|aA [(0,.slice ao n c),(2,pg g2),(3,iI 0),(4,pg u),(5,pg q),(28,bT)]<|aL<|sr<|tz 1<|tsw d cl0 ?_
 intro v88 Y C;have f:=aF f C;have g:=RfA.dc g d rfl (by omega) (aU C);have a:=a.chg C (by omega);have d:=Y;refine tz 1<|nr<|bE<|ah (.tuple #[.agg #[iU 0,iU 0,iU 0,iU 0,iU 0,iU 0,iU 0,iU 0,iU 0,iU 0,zS,zS],iI 210]) (dk (T:=28) 2 3 (lr d 0)) ?_
 exact zR (oQ (ex1 ho Ex11 cz14)) (by decide) f
end
end Gn
end
section
namespace Ks
open Go.RowKit Go.Lib Pg Gl
attribute [local go_sem] Oper.semAt_some
set_option linter.unusedVariables false
set_option linter.unusedSimpArgs false
section
variable {w:World}{k m0 m1 x y a b:Int}{n:Nat}{r:Bool}{ρ:Operand->Value}
theorem fo_f(hf:Ky.frm k=((n:Int),m0,m1)):CP 105 #[.int .i64 k] w λe w'=>e=.returned (.agg #[.int .i64 (n:Int),.int .u8 m0,.int .u8 m1])/\BW w w':=by
 have u:=Ky.nF (w:=w) (k:=k);rw[hf] at u;exact u
theorem DU{n:Int}(h:decide (8 < n)=r):CP 106 #[.agg #[.int .i64 n,.int .u8 x,.int .u8 y]] w λe w'=>e=.returned (.bool r)/\BW w w':=by
 subst h;exact Ky.fx (w:=w) (n:=n) (x:=x) (y:=y)
theorem ml{n:Int}(h:decide (16 < n)=r):CP 107 #[.agg #[.int .i64 n,.int .u8 x,.int .u8 y]] w λe w'=>e=.returned (.bool r)/\BW w w':=by
 subst h;exact Ky.iD (w:=w) (n:=n) (x:=x) (y:=y)
theorem Be(h0:0<=a)(h1:a < 18446744073709551616):CP 109 #[.int .i64 k,.int .u64 a] w λe w'=>e=.returned (.int .u64 (Ky.tn k a))/\BW w w':=by
 refine(Ky.jE h0 h1).mono ?_
 rintro e w' ⟨rfl,rfl⟩;exact⟨rfl,Below.refl _ _⟩
theorem DM{o:Oper}{n:Int}(hn:n≠0)(ho:∃ u v,o.op=.binOp .eql 204 u v 204/\ρ u=.agg #[.int .i64 n,.int .u8 m0,.int .u8 m1]/\ρ v=.agg #[.int .i64 0,.int .u8 0,.int .u8 0]:=by exact⟨_,_,rfl,by kernel_rfl,by kernel_rfl⟩):(execOp ρ o).run Tryz.prog w=.ok (.value (.bool false)) w:=by
 obtain⟨u,v,h,e1,e2⟩:=ho;simp only[execOp,h,e1,e2];go_simp
 try simp[hn]
theorem mk_n(hf:Ky.frm k=((n:Int),m0,m1))(hn:n<=18)(h0:0<=m0/\m0 < 256)(h1:0<=m1/\m1 < 256)(A:0<=a/\a < 18446744073709551616)(he:(n:Int)≠0/\(a≠0->8 < (n:Int))/\(b≠0->16 < (n:Int))):CP 72 #[.agg #[iI k,iU a,iU b]] w λe w'=>∃ v,e=.returned (.tuple #[v,iI 0])/\OB w' (w.heap.size <= ·) v (Ky.mk k a b)/\BW w w':=by
 have f:=Below.refl w.heap.size w;refine af (n:=46) Tryz.func72 rfl ?_
 refine sr<|ta 1 [iI k,iU a,iU b] 103 (pg) ?_
 intro v1 j c t B;have P:=Nat.le_trans f.size t;skip;have f:=ae f B;refine tz 2<|nx<|tz 1<|tl 7 (iI k) c 0<|tc 8 105 #[iI k] (fo_f hf) ?_
 rintro _ R ⟨rfl,B⟩;have f:=ae f B;have c:=c.keep B;have D:=c.lt;refine⟨_,rfl,ta 4 [iI 0,.int .u8 0,.int .u8 0] 204 (pg) ?_⟩;intro v4 m d x B;have I:=Nat.le_trans f.size x;have p:=c.lt;have f:=ae f B;have c:=c.keep B;refine tsw d [iI (n:Int),.int .u8 m0,.int .u8 m1] ?_
 intro v6 Y C;have f:=aF f C;have c:=c.chg C (by omega);have d:=Y;refine nt ?_
 refine wV (fun(_:Unit)=>[(1,pg j),(4,pg m),(31,bF)]) (λ_ w'=>BW w w'/\Blk w' j [iI k,iU a,iU b] 103/\Blk w' m [iI (n:Int),.int .u8 m0,.int .u8 m1] 204) ?_ ?_
 ·refine sr<|tlr 9 [iI (n:Int),.int .u8 m0,.int .u8 m1] d 0<|tz 1<|tr 11 (bF) (DM (n:=(n:Int)) (m0:=m0) (m1:=m1) he.1)<|tz 2<|tl 14 (iU a) c 1 ?_
  by_cases F:(a:Int)=0
  ·refine tq 15 (.bool ((a:Int) != 0)) (bF) (congrArg Value.bool (bne_eq_false_iff_eq.2 F))<|tz 1<|tn 17<|tn 18<|tn 19<|tz 4<|tl 24 (iU b) c 2 ?_
   by_cases y:(b:Int)=0
   ·exact tq 25 (.bool ((b:Int) != 0)) (bF) (congrArg Value.bool (bne_eq_false_iff_eq.2 y))<|tz 1<|tn 27<|tn 28<|tn 29<|tz 2<|nt<|aA [(1,pg j),(2,zS),(3,iI 0),(4,pg m),(31,bF)]<|aX<|aT<|iC () ⟨f,c,d⟩ (by kernel_rfl)
   refine tq 25 (.bool ((b:Int) != 0)) (bT) (congrArg Value.bool (bne_iff_ne.2 y))<|tz 1<|tlr 27 [iI (n:Int),.int .u8 m0,.int .u8 m1] d 0<|tc 28 107 #[.agg #[iI (n:Int),.int .u8 m0,.int .u8 m1]] (ml (r:=true) (by exact decide_eq_true (he.2.2 (by omega)))) ?_
   rintro _ S ⟨rfl,B⟩;have f:=ae f B;have c:=c.keep B;have d:=d.keep B;exact⟨_,rfl,tz 3<|nt<|aA [(1,pg j),(2,zS),(3,iI 0),(4,pg m),(31,bF)]<|aX<|aT<|iC () ⟨f,c,d⟩ (by kernel_rfl)⟩
  refine tq 15 (.bool ((a:Int) != 0)) (bT) (congrArg Value.bool (bne_iff_ne.2 F))<|tz 1<|tlr 17 [iI (n:Int),.int .u8 m0,.int .u8 m1] d 0<|tc 18 106 #[.agg #[iI (n:Int),.int .u8 m0,.int .u8 m1]] (DU (r:=true) (by exact decide_eq_true (he.2.1 (by omega)))) ?_
  rintro _ v10 ⟨rfl,B⟩;have f:=ae f B;have c:=c.keep B;have d:=d.keep B;refine⟨_,rfl,tz 5<|tl 24 (iU b) c 2 ?_⟩;by_cases o:(b:Int)=0
  ·exact tq 25 (.bool ((b:Int) != 0)) (bF) (congrArg Value.bool (bne_eq_false_iff_eq.2 o))<|tz 1<|tn 27<|tn 28<|tn 29<|tz 2<|nt<|aA [(1,pg j),(2,zS),(3,iI 0),(4,pg m),(31,bF)]<|aX<|aT<|iC () ⟨f,c,d⟩ (by kernel_rfl)
  refine tq 25 (.bool ((b:Int) != 0)) (bT) (congrArg Value.bool (bne_iff_ne.2 o))<|tz 1<|tlr 27 [iI (n:Int),.int .u8 m0,.int .u8 m1] d 0<|tc 28 107 #[.agg #[iI (n:Int),.int .u8 m0,.int .u8 m1]] (ml (r:=true) (by exact decide_eq_true (he.2.2 (by omega)))) ?_
  rintro _ N ⟨rfl,B⟩;have f:=ae f B;have c:=c.keep B;have d:=d.keep B;exact⟨_,rfl,tz 3<|nt<|aA [(1,pg j),(2,zS),(3,iI 0),(4,pg m),(31,bF)]<|aX<|aT<|iC () ⟨f,c,d⟩ (by kernel_rfl)⟩
 rintro _ G ⟨f,c,d⟩;refine ag ?_
 have f:=f.drew;have c:=c.drew;have d:=d.drew;refine gd2 d c ?_
 refine zlr 0 32 [iI (n:Int),.int .u8 m0,.int .u8 m1] (λ_ h=>h.1) 0<|z 1 33 (pg j)<|zl 2 34 (iI k) (λ_ h=>h.2) 0<|z 3 35 (pq j 1)<|zl 4 36 (iU a) (λ_ h=>h.2) 1<|zc 5 37 109 #[iI k,iU a] (Be A.1 A.2) ?_
 rintro _ s ⟨rfl,B⟩;have f:=ae f B;have c:=c.keep B;have d:=d.keep B;refine⟨_,rfl,⟨d,c⟩,?_⟩;obtain⟨T,q⟩:∃ T,T=(s).heap.size:=⟨_,rfl⟩
 have l:w.heap.size<=T:=by rw[q];exact f.size
 refine zc 6 38 108 #[.agg #[iI (n:Int),.int .u8 m0,.int .u8 m1],iU (Ky.tn k a)] (Ky.yn (n:=n) (a:=Ky.tn k a) (by omega) h0 h1) ?_
 rintro _ H ⟨u,rfl,U,B⟩;rw[<- q] at U;have L:=B.size;have f:=ae f B;have c:=c.keep B;have d:=d.keep B
 have g:T<=_:=Nat.le_trans (Nat.le_of_eq q) L;refine⟨_,rfl,⟨d,c⟩,z 7 5 (u)<|aS<|aj<|ag<|sr<|tlr 39 [iI (n:Int),.int .u8 m0,.int .u8 m1] d 0 ?_⟩;by_cases i:(16:Int) < n
 ·refine tc 40 107 #[.agg #[iI (n:Int),.int .u8 m0,.int .u8 m1]] (ml (r:=true) (decide_eq_true i)) ?_
  rintro _ K ⟨rfl,B⟩;have f:=ae f B;have c:=c.keep B;have d:=d.keep B;have U:=U.keep B;have g:=Nat.le_trans g B.size;refine⟨_,rfl,nt<|aL<|aN<|tz 2<|tl 43 (iU b) c 2 ?_⟩;refine tc 44 110 #[u,iU b] (Ky.dh U g (Nat.le_trans (Ky.xa _ _) (by decide))) ?_
  rintro _ Q ⟨E,rfl,O,M⟩;have f:=f.trans (M.mono l);refine⟨_,rfl,tz 1<|nt<|aA [(5,E)]<|sr<|tz 3<|nr<|ah (.tuple #[E,iI 0]) (rs2 2 3) ?_⟩;refine⟨_,rfl,?_,f⟩;rw[show Ky.mk k a b=_ by unfold Ky.mk;rw[hf,if_pos (show (16:Int) < (n:Int) from i)]];exact(O).mono (λb _ h=>Nat.le_trans l h)
 refine tc 40 107 #[.agg #[iI (n:Int),.int .u8 m0,.int .u8 m1]] (ml (r:=false) (decide_eq_false i)) ?_
 rintro _ J ⟨rfl,B⟩;have f:=ae f B;have c:=c.keep B;have d:=d.keep B;have U:=U.keep B;have g:=Nat.le_trans g B.size;refine⟨_,rfl,nt<|nk<|sr<|tz 3<|nt<|aA [(2,u),(3,iI 0)]<|bB<|ah (.tuple #[u,iI 0]) (rs2 2 3) ?_⟩;refine⟨_,rfl,?_,f⟩;rw[show Ky.mk k a b=_ by unfold Ky.mk;rw[hf,if_neg (show ¬ (16:Int) < (n:Int) from i),List.append_nil]];exact(U).mono (λb _ h=>Nat.le_trans l h)
theorem mk_g(g:0<=a/\a < 18446744073709551616)(c:Ky.mkE k a b=false):CP 72 #[.agg #[.int .i64 k,.int .u64 a,.int .u64 b]] w λe w'=>∃ v,e=.returned (.tuple #[v,.int .i64 0])/\OB w' (w.heap.size <= ·) v (Ky.mk k a b)/\BW w w':=by
 obtain⟨n,i,j,hf,hn,d,f,l⟩:=Ky.pF k;unfold Ky.mkE at c;rw[hf] at c;simp at c;exact mk_n hf hn d f g ⟨by omega,λh=>by omega,λh=>by omega⟩
end
end Ks
end
end Go.Proofs.YtpoifdokmjhclaaGreat
