import Derived.Test.YtgdohcdlkonhiaaGreatDoorJaA
set_option maxRecDepth 100000
set_option maxHeartbeats 8000000
namespace Go.Proofs.YtgdohcdlkonhiaaGreatDoor
namespace Fo
open Go.RowKit Go.Lib Pg Lim Gl Kv Bk Pw Sd Di
attribute [local go_sem] Oper.semAt_some
set_option linter.unusedVariables false
set_option linter.unusedSimpArgs false
section
variable {b n g:Nat}{w:World}{cs:List Value}{K:Nat->Prop}
theorem dfs1{C D:Nat}{W:World}(k:Rs C W w)(h:W.heap[D]? = some (.deferred (some [])))(c:C<=D)(hb:b<=D):Dfs b [D] w:=⟨fun d a=>by
 have e:d=D:=by simpa using a
 subst e
 exact⟨hb,k.same _ _ c h gA⟩,by simp⟩
theorem rstM{l:Gl.Fr}{fn:Func}{ds:List Deferred}(j k:Nat){u v:Value}{T t:TypeId}(X:Blk w g cs t)(e:∀ W,Blk W g cs t->(loadVar T ⟨g,0,none⟩).run Tryz.prog W=.ok v W)(h:fn.results=#[.tmp j,.cell k T])(hu:lk l j=some u)(hv:lk l k=some (pg g))(W:World)(a:Act)(q:Rec b w W)(r:Rd n ds l a):(results fn a.tmps).run Tryz.prog W=.ok (.tuple #[u,v]) W:=by
 have d:=r.gD hv;have c:=r.gD hu;simp at d c;simp[results,h,d,c,pg,asAddr,e W (iW X q)]
structure Sl where
 a:Option Addr
 k:Nat
 c:Nat
 z:Nat
structure TkE(B:Nat)(w:World)(K:Nat->Prop)(g:Nat)(E:aC)(n N:Nat)(V:Int)(e:Ending)(w':World):Prop where
 ex:∃ b0 k0 d0 y0 K' n' N',e=.returned (.slice b0 k0 d0)/\Sx B w' K' g E [] n' N'/\n'<=n+100/\N'<=N+100/\(∀ b,K' b->K b\/w.heap.size<=b)/\Chg K w w'/\Nq w' K' y0 b0 k0 d0 V/\k0<=100/\(k0=0\/w.heap.size<=y0)
theorem Dg{B:Nat}{E:aC}{N:Nat}{rt0 tk0 un0 pe0 x00 x01 x02 x03:Int}{jl0 bo0:Bool}{rt1 tk1 un1 pe1 x10 x11 x12 x13:Int}{jl1 bo1:Bool}(h:Sx B w K g E [] n N)(hp:(pks 11 98 E).map Prod.fst=[16,17])(hRk:∀ x∈E,[98] <+: x.1->Ky.frm (11:Nat)=Ky.fIn x.1)(hv0:ml (got E (Ky.mk 5 16 0))=([rt0,tk0,x00,(bi jl0),un0,(bi bo0),pe0,x01,x02,x03],0))(hv1:ml (got E (Ky.mk 5 17 0))=([rt1,tk1,x10,(bi jl1),un1,(bi bo1),pe1,x11,x12,x13],0))(htk0:0<=tk0/\tk0 < 18446744073709551616)(W:0<=tk1/\tk1 < 18446744073709551616)(hn:n<=1000000)(hN:N<=1000000):Calls Tryz.prog 124 #[pg g] w (TkE B w K g E n N (0+tk0+tk1)):=by
 have U:=dw h;refine gu (n:=17) Tryz.func124 rfl ?_
 refine ae (ah (t 2 (.slice none 0 0) (af (aa (ae (ah (tc 6 9 #[iU 0] (mW (x:=0) (by decide) (by decide)) ?_)))))));rintro _ v2 ⟨R,S,Q,zq1,rfl,M,h,mq1,B⟩;refine⟨_,rfl,?_⟩;have fq1:=ne3 h U.ta.size;replace U:=U.num M h B;clear M h B;refine ta 3 [.slice none 0 0] 24 (pg) ?_
 intro v3 g4 Xg4 hg4 B;replace U:=U.new Xg4 hg4 B;clear Xg4 hg4 B;refine ts (U.bk 0 rfl) 0 (.slice R S Q) [.slice R S Q] [.slice R S Q] ?_
 intro v5 Y C;replace U:=U.put 0 rfl C Y (by decide);clear Y C;refine af (aa (ae (ae (ah (t 7 (pg g) (tc 8 127 #[pg g] (oW) ?_))))));rintro _ v7 ⟨g6,rfl,X,hb,B⟩;refine⟨_,rfl,?_⟩;replace U:=U.new X hb B;clear X hb B;refine af (aa (dU (aD [(2,.slice none 0 0),(3,pg g4),(8,.func (.func 192) #[] #[pg g6])] ?_)));have H:=U.ta.size;have ltw:=U.lt;refine vL (lb:=#[pg g6]) (fun V=>∃ (s:Sl) (K':Nat->Prop) (n' N':Nat),(s.k<=5/\(s.k=0\/w.heap.size<=s.z))/\n'<=n+60/\N'<=N+60/\Ut w K B g [] V K' E n' N' ((g6,[pg g],40) :: [(g4,[.slice s.a s.k s.c],24)]) [(s.z,s.a,s.k,s.c,0+tk0+tk1)]) (enters_of Tryz.func192 (by kernel_rfl) rfl) ?_ ?_ ?_
 ·intro a fn ra V0 hB hs mk;refine(mE (E2:=E) (fun i (s:Sl)=>match i with | 0=>s.k<=1/\(s.k=0\/w.heap.size<=s.z) | 1=>s.k<=3/\(s.k=0\/w.heap.size<=s.z) | _=>s.k<=5/\(s.k=0\/w.heap.size<=s.z)) (fun i (s:Sl)=>match i with | 0=>[(g4,[.slice s.a s.k s.c],24)] | 1=>[(g4,[.slice s.a s.k s.c],24)] | _=>[(g4,[.slice s.a s.k s.c],24)]) (fun i (s:Sl)=>match i with | 0=>[(s.z,s.a,s.k,s.c,0)] | 1=>[(s.z,s.a,s.k,s.c,0+tk0)] | _=>[(s.z,s.a,s.k,s.c,0+tk0+tk1)]) hp hRk hv0 hv1 ⟨R,S,Q,zq1⟩ ⟨by omega,fq1⟩ ((U.sel [0,1] [0]).keep hB) (by omega) (by omega) mk (by omega) (by omega) ?_ ?_).mono ?_
  ·rintro⟨I,d,P,zS⟩ VY KY nY NY ib sp a0 n0 c0 z0 a1 D c1 z1 a2 F c2 z2 a3 G c3 z3 f hnY hNY m0 m1 m2 m3 UY O;have hloY:=lt_of_block O.l;replace f:d<=1/\(d=0\/w.heap.size<=zS):=f;obtain⟨hP1,hP2⟩:=f;dsimp only at UY;refine j3 (n:=17) (B0:=v7.heap.size) (by omega) (by omega) (by omega) O rfl (Rz.st H) (jZ ra (iU 16) (.agg #[iU rt0,iU tk0,.slice a0 n0 c0,.bool jl0,iU un0,.bool bo0,iU pe0,.slice a1 D c1,.slice a2 F c2,.slice a3 G c3]) (by decide) (by decide)) ?_
   refine il ?_
   refine ta 5 [iU 0,iU 0,.slice none 0 0,bF,iU 0,bF,iU 0,.slice none 0 0,.slice none 0 0,.slice none 0 0] 28 (pg) ?_
   intro v9 g8 X hg8 B;refine ts X 0 (.agg #[iU rt0,iU tk0,.slice a0 n0 c0,.bool jl0,iU un0,.bool bo0,iU pe0,.slice a1 D c1,.slice a2 F c2,.slice a3 G c3]) [iU rt0,iU tk0,.slice a0 n0 c0,.bool jl0,iU un0,.bool bo0,iU pe0,.slice a1 D c1,.slice a2 F c2,.slice a3 G c3] [iU rt0,iU tk0,.slice a0 n0 c0,.bool jl0,iU un0,.bool bo0,iU pe0,.slice a1 D c1,.slice a2 F c2,.slice a3 G c3] ?_
   intro v10 Y C;have HB:=aL B C hg8;clear B C X;refine af (qO HB ?_);intro V2 W2 hr2 hs2 J L
   have X5:Blk W2 g8 [iU rt0,iU tk0,.slice a0 n0 c0,.bool jl0,iU un0,.bool bo0,iU pe0,.slice a1 D c1,.slice a2 F c2,.slice a3 G c3] 28:=⟨(L g8 (by omega)).trans Y.blk⟩
   have U:=ie (C:=v7.heap.size) ((UY.rcd hr2 H).new X5 (by omega) J)
   have hsW:v7.heap.size<=W2.heap.size:=by have:=J.size;omega
   clear X5 Y HB UY L;refine jS ?_
   replace U:=U.drew;refine iH (fun w'=>Blk w' g4 [.slice I d P] 24/\Blk w' g8 [iU rt0,iU tk0,.slice a0 n0 c0,.bool jl0,iU un0,.bool bo0,iU pe0,.slice a1 D c1,.slice a2 F c2,.slice a3 G c3] 28) (fun i=>decide (5<=i)) ⟨(U.bk 3 rfl),(U.bk 0 rfl)⟩ ?_
   refine zl 0 11 (.slice I d P) (fun _ h=>h.1) 0 (zp 1 12 (pq g8 1) (zl 2 13 (iU tk0) (fun _ h=>h.2) 1 (zc 3 14 9 #[iU tk0] (mW (x:=tk0) htk0.1 htk0.2) ?_)));rintro _ v12 ⟨aq11,nq11,cq11,zq11,rfl,M,h,mq11,B⟩;have fq11:=ne3 h U.ta.size;replace U:=U.num M h B;clear M h B;refine⟨_,rfl,⟨(U.bk 3 rfl),(U.bk 0 rfl)⟩,?_⟩;refine zc 4 15 12 #[.slice I d P,.slice aq11 nq11 cq11] (vc (U.nq 5 rfl).nat (U.nq 0 rfl).nat (by omega) (by omega)) ?_
   rintro _ v14 ⟨o,y,j,zq13,rfl,M,h,mq13,B⟩;have fq13:=ne3 h U.ta.size;replace U:=U.num M h B;clear M h B;refine⟨_,rfl,⟨(U.bk 3 rfl),(U.bk 0 rfl)⟩,?_⟩;refine ec (ys 5 (U.bk 3 rfl) 0 (.slice o y j) [.slice o y j] [.slice o y j] ?_);intro v15 Y C;replace U:=U.put 3 rfl C Y (by decide);clear Y C;exact dY (gW (vK U.k ⟨⟨o,y,j,zq13⟩,_,_,_,⟨by (try dsimp only);omega,fq13⟩,by omega,by omega,U.u.sel [1,2,3] [0]⟩))
  ·rintro⟨I,d,P,zS⟩ VY KY nY NY ib sp a0 n0 c0 z0 a1 D c1 z1 a2 F c2 z2 a3 G c3 z3 f hnY hNY m0 m1 m2 m3 UY O;have hloY:=lt_of_block O.l;replace f:d<=3/\(d=0\/w.heap.size<=zS):=f;obtain⟨hP1,hP2⟩:=f;dsimp only at UY;refine j3 (n:=17) (B0:=v7.heap.size) (by omega) (by omega) (by omega) O rfl (Rz.st H) (jZ ra (iU 17) (.agg #[iU rt1,iU tk1,.slice a0 n0 c0,.bool jl1,iU un1,.bool bo1,iU pe1,.slice a1 D c1,.slice a2 F c2,.slice a3 G c3]) (by decide) (by decide)) ?_
   refine il ?_
   refine ta 5 [iU 0,iU 0,.slice none 0 0,bF,iU 0,bF,iU 0,.slice none 0 0,.slice none 0 0,.slice none 0 0] 28 (pg) ?_
   intro v17 g16 X hg16 B;refine ts X 0 (.agg #[iU rt1,iU tk1,.slice a0 n0 c0,.bool jl1,iU un1,.bool bo1,iU pe1,.slice a1 D c1,.slice a2 F c2,.slice a3 G c3]) [iU rt1,iU tk1,.slice a0 n0 c0,.bool jl1,iU un1,.bool bo1,iU pe1,.slice a1 D c1,.slice a2 F c2,.slice a3 G c3] [iU rt1,iU tk1,.slice a0 n0 c0,.bool jl1,iU un1,.bool bo1,iU pe1,.slice a1 D c1,.slice a2 F c2,.slice a3 G c3] ?_
   intro v18 Y C;have HB:=aL B C hg16;clear B C X;refine af (qO HB ?_);intro V2 W2 hr2 hs2 J L
   have X5:Blk W2 g16 [iU rt1,iU tk1,.slice a0 n0 c0,.bool jl1,iU un1,.bool bo1,iU pe1,.slice a1 D c1,.slice a2 F c2,.slice a3 G c3] 28:=⟨(L g16 (by omega)).trans Y.blk⟩
   have U:=ie (C:=v7.heap.size) ((UY.rcd hr2 H).new X5 (by omega) J)
   have hsW:v7.heap.size<=W2.heap.size:=by have:=J.size;omega
   clear X5 Y HB UY L;refine jS ?_
   replace U:=U.drew;refine iH (fun w'=>Blk w' g4 [.slice I d P] 24/\Blk w' g16 [iU rt1,iU tk1,.slice a0 n0 c0,.bool jl1,iU un1,.bool bo1,iU pe1,.slice a1 D c1,.slice a2 F c2,.slice a3 G c3] 28) (fun i=>decide (5<=i)) ⟨(U.bk 3 rfl),(U.bk 0 rfl)⟩ ?_
   refine zl 0 11 (.slice I d P) (fun _ h=>h.1) 0 (zp 1 12 (pq g16 1) (zl 2 13 (iU tk1) (fun _ h=>h.2) 1 (zc 3 14 9 #[iU tk1] (mW (x:=tk1) W.1 W.2) ?_)));rintro _ v20 ⟨aq19,nq19,cq19,zq19,rfl,M,h,mq19,B⟩;have fq19:=ne3 h U.ta.size;replace U:=U.num M h B;clear M h B;refine⟨_,rfl,⟨(U.bk 3 rfl),(U.bk 0 rfl)⟩,?_⟩;refine zc 4 15 12 #[.slice I d P,.slice aq19 nq19 cq19] (vc (U.nq 5 rfl).nat (U.nq 0 rfl).nat (by omega) (by omega)) ?_
   rintro _ v22 ⟨p,q,m,zq21,rfl,M,h,mq21,B⟩;have fq21:=ne3 h U.ta.size;replace U:=U.num M h B;clear M h B;refine⟨_,rfl,⟨(U.bk 3 rfl),(U.bk 0 rfl)⟩,?_⟩;refine ec (ys 5 (U.bk 3 rfl) 0 (.slice p q m) [.slice p q m] [.slice p q m] ?_);intro v23 Y C;replace U:=U.put 3 rfl C Y (by decide);clear Y C;exact dY (gW (vK U.k ⟨⟨p,q,m,zq21⟩,_,_,_,⟨by (try dsimp only);omega,fq21⟩,by omega,by omega,U.u.sel [1,2,3] [0]⟩))
  ·rintro e W' ⟨he,⟨s,K',n',N',hP,q1,q2,U'⟩,mk'⟩;exact⟨he,⟨s,K',n',N',hP,by omega,by omega,U'⟩,mk'⟩
 ·rintro A Z ⟨s,K',n',N',hP,q1,q2,U'⟩ r;exact⟨s,K',n',N',hP,q1,q2,U'.rcd r H⟩
 clear U;intro v24 hD hI;obtain⟨⟨I,d,P,zS⟩,KS_,nS,NS,T,qnS,qNS,U⟩:=hI;replace T:d<=5/\(d=0\/w.heap.size<=zS):=T;obtain⟨T,hPT⟩:=T;dsimp only at U;replace U:=ie (C:=v7.heap.size) U;refine gW (aa (ae (ah (tl 16 (.slice I d P) (U.bk 1 rfl) 0 (t 2 (.slice I d P) (af (aa (ay ?_))))))));have DF:=dfs1 U.k hD (Nat.le_refl _) H;refine pJ (b:=w.heap.size) (v:=.slice I d P) [v7.heap.size] DF (rsM 2 (by kernel_rfl) (by kernel_rfl)) ?_
 intro Vz Rz;have hwz:=U.ta.size;replace U:=U.u.rcd Rz (Nat.le_refl _);exact⟨_,_,_,_,_,_,_,rfl,U.ta.sx,by omega,by omega,U.ta.km,U.ta.cc,(U.nq 0 rfl),by omega,hPT⟩
end
end Fo
end Go.Proofs.YtgdohcdlkonhiaaGreatDoor
