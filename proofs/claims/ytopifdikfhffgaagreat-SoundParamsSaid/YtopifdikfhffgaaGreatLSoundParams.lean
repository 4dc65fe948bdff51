/- gleanlaw19.SoundParams. -/
import Derived.Test.YtopifdikfhffgaaGreatJaw
set_option maxRecDepth 100000
set_option maxHeartbeats 8000000
namespace Go.Proofs.YtopifdikfhffgaaGreat
namespace Sd
open Go.RowKit Go.Lib Pg Lim Gl Kv Bk Pw
attribute [local go_sem] Oper.semAt_some
set_option linter.unusedSimpArgs false
set_option linter.unusedVariables false
theorem snewS {w:World}:Calls Tryz.prog 9 #[] w fun e w'=>∃ g K,e=.returned (pg g)/\Sx w.heap.size w' K g [] [] 0 0/\(∀ b,K b->w.heap.size<=b)/\Below w.heap.size w w':=by
 refine snew.mono ?_
 rintro e w' ⟨g,K,rfl,S,hK,B⟩
 exact ⟨g,K,rfl,⟨S.mono (fun _ _ h=>h.elim),B.size,hK⟩,hK,B⟩
theorem PV_len:PV.length<=600:=by decide +kernel
theorem CV_len:CV.length<=600:=by decide +kernel
theorem putPV {w:World}:Calls Tryz.prog 14 #[.agg #[.int .u64 1,.int .u64 1,.int .u64 1,.int .u64 0,.int .u64 0,.int .u64 0,.int .u64 0,.int .u64 0,.int .u64 0,.int .u64 16]] w fun e w'=>∃ v,e=.returned v/\ByU w' v PV/\Below w.heap.size w w':=by
 refine Rc.PutParams_any.mono ?_
 rintro e w' ⟨b,n,rfl,hn,X,hb,B⟩
 exact ⟨_,rfl,byu_box X (show Oct PV by unfold Oct; decide +kernel) hn (Nat.le_trans PV_len (by decide)),B⟩
theorem putCV {w:World}:Calls Tryz.prog 15 #[.agg #[.int .u64 1,.int .u64 1]] w fun e w'=>∃ v,e=.returned v/\ByU w' v CV/\Below w.heap.size w w':=by
 refine Rc.PutChain_any.mono ?_
 rintro e w' ⟨b,n,rfl,hn,X,hb,B⟩
 exact ⟨_,rfl,byu_box X (show Oct CV by unfold Oct; decide +kernel) hn (Nat.le_trans CV_len (by decide)),B⟩
theorem setS {B:Nat} {w:World} {K:Nat->Prop} {g:Nat} {E E':Ents} {n N:Nat} {kv vv:Value} {k v:List Int} (h:Sx B w K g E [] n N) (hk:ByU w kv k) (hv:ByU w vv v) (hs:setE k v=0) (he:put E k v=E') (hn:n<=1000) (hN:N<=900):Calls Tryz.prog 11 #[pg g,kv,vv] w (SxE B w K g E' [] (n + 1) (N + 2) (.int .i64 0)):=by
 have u:=xset h hk hv (by omega) (by omega)
 rw [hs,if_pos rfl,he] at u
 exact u
theorem least_any {w:World}:Calls Tryz.prog 7 #[] w fun e w'=>∃ g K n N,e=.returned (pg g)/\Sx w.heap.size w' K g EA [] n N/\n<=10/\N<=10/\(∀ b,K b->w.heap.size<=b)/\Below w.heap.size w w':=by
 refine gc_enter (n:=30) Tryz.func7 rfl ?_
 refine gc_seq (gc_reg (t 0 (.pointer none) (gl_nil (ge_then (gc_seq (gc_reg (tc 6 9 #[] (snewS) ?_)))))))
 rintro _ v1 ⟨g,K,rfl,h,hK1,BC⟩
 refine ⟨_,rfl,?_⟩
 have A:=h.at
 refine t 1 (pg g) (gl_nil (ge_then (gc_seq (gc_seq (gc_reg (t 7 (pg g) (t 8 (bF) (gl_nil (ge_then (gc_no (gc_skip (ge_then (gc_seq (gc_reg (t 10 (.agg #[iI 1,iU 0,iU 0]) (tc 11 10 #[.agg #[iI 1,iU 0,iU 0]] (mkS (k:=1) (a:=0) (b:=0) ⟨by decide,by decide⟩ (by decide +kernel)) ?_))))))))))))))))
 rintro _ v4 ⟨kv3,rfl,U2,B⟩
 refine ⟨_,rfl,?_⟩
 replace A:=A.keep B
 refine t 9 (.tuple #[kv3,iI 0]) (t 12 (kv3) (t 13 (iI 0) (t 2 (kv3) (t 3 (iI 0) (gl_nil (ge_then (gc_fr [(0,.pointer none),(1,pg g),(2,kv3)] (gc_seq (gc_reg (t 15 (.agg #[iI 2,iU 0,iU 0]) (tc 16 10 #[.agg #[iI 2,iU 0,iU 0]] (mkS (k:=2) (a:=0) (b:=0) ⟨by decide,by decide⟩ (by decide +kernel)) ?_)))))))))))
 rintro _ v7 ⟨kv6,rfl,U5,B⟩
 refine ⟨_,rfl,?_⟩
 replace A:=A.keep B
 replace U2:=byu_keep U2 B
 refine t 14 (.tuple #[kv6,iI 0]) (t 17 (kv6) (t 18 (iI 0) (t 4 (kv6) (t 5 (iI 0) (gl_nil (ge_then (gc_seq (gc_reg (t 19 (pg g) (t 20 (kv3) (t 21 (.agg #[iU 1,iU 1,iU 1,iU 0,iU 0,iU 0,iU 0,iU 0,iU 0,iU 16]) (tc 22 14 #[.agg #[iU 1,iU 1,iU 1,iU 0,iU 0,iU 0,iU 0,iU 0,iU 0,iU 16]] (putPV) ?_))))))))))))
 rintro _ v10 ⟨pv9,rfl,U8,B⟩
 refine ⟨_,rfl,?_⟩
 replace A:=A.keep B
 replace U2:=byu_keep U2 B
 replace U5:=byu_keep U5 B
 refine tc 23 11 #[pg g,kv3,pv9] (setS A.sx U2 U8 (by decide +kernel) rfl (by omega) (by omega)) ?_
 rintro _ v12 ⟨rfl,K11,S,hK,hC⟩
 refine ⟨_,rfl,?_⟩
 replace U2:=A.byu U2 hC
 replace U5:=A.byu U5 hC
 replace U8:=A.byu U8 hC
 replace A:=A.op S hK hC
 clear U8
 clear U2
 refine gl_nil (ge_then (gc_fr [(0,.pointer none),(1,pg g),(4,kv6)] (gc_seq (gc_reg (t 24 (pg g) (t 25 (kv6) (t 26 (.agg #[iU 1,iU 1]) (tc 27 15 #[.agg #[iU 1,iU 1]] (putCV) ?_))))))))
 rintro _ v15 ⟨pv14,rfl,U13,B⟩
 refine ⟨_,rfl,?_⟩
 replace A:=A.keep B
 replace U5:=byu_keep U5 B
 refine tc 28 11 #[pg g,kv6,pv14] (setS A.sx U5 U13 (by decide +kernel) put_a (by omega) (by omega)) ?_
 rintro _ v17 ⟨rfl,K16,S,hK,hC⟩
 refine ⟨_,rfl,?_⟩
 replace U5:=A.byu U5 hC
 replace U13:=A.byu U13 hC
 replace A:=A.op S hK hC
 clear U13
 clear U5
 refine gl_nil (ge_then (gc_seq (gc_reg (t 29 (pg g) (t 0 (pg g) (gl_nil (ge_then (gc_ret (ge_ret (pg g) (rs1 0 (by kernel_rfl) (by kernel_rfl)) ?_)))))))))
 exact ⟨_,_,_,_,rfl,A.sx,by omega,by omega,fun b hb=>(A.km b hb).elim (hK1 b) (Nat.le_trans BC.size),BC.trans (A.cc.below hK1 BC.size)⟩
theorem fitL {w:World} {x0 x1 x2 x3 x4 x5 x6 x7 x8 x9:Int} {r:Bool} (h:fit x0 x1 x2 x3 x4 x5 x6 x7 x8 x9=r):Calls Tryz.prog 5 #[.agg #[.int .u64 x0,.int .u64 x1,.int .u64 x2,.int .u64 x3,.int .u64 x4,.int .u64 x5,.int .u64 x6,.int .u64 x7,.int .u64 x8,.int .u64 x9]] w fun e w'=>e=.returned (.bool r)/\Below w.heap.size w w':=by
 rw [<- h]
 exact fit_any
theorem known19 {w:World}:Calls Tryz.prog 4 #[] w fun e w'=>e=.returned (.bool true)/\Below w.heap.size w w':=by
 refine gc_enter (n:=47) Tryz.func4 rfl ?_
 refine gc_seq (gc_reg (t 0 (bF) (gl_nil (ge_then (gc_seq (gc_reg (tc 4 7 #[] (least_any) ?_)))))))
 rintro _ v1 ⟨g,K,n,N,rfl,h,hn,hN,hK1,BC⟩
 refine ⟨_,rfl,?_⟩
 have A:=h.at
 refine t 1 (pg g) (gl_nil (ge_then (gc_seq (gc_seq (gc_reg (t 5 (pg g) (t 6 (bF) (t 7 (bF) (t 8 (pg g) (tc 9 8 #[pg g] (check_A A.sx (by omega)) ?_))))))))))
 rintro _ v2 ⟨rfl,B⟩
 refine ⟨_,rfl,?_⟩
 replace A:=A.keep B
 refine t 10 (bF) (t 11 (bF) (t 12 (bF) (tc 13 9 #[] (snewS) ?_)))
 rintro _ v3 ⟨g9,K9,rfl,S9,hK9,B⟩
 refine ⟨_,rfl,?_⟩
 replace A:=A.keep B
 refine tc 14 8 #[pg g9] (check_0 S9 (by omega)) ?_
 rintro _ v4 ⟨rfl,B⟩
 refine ⟨_,rfl,?_⟩
 replace A:=A.keep B
 replace S9:=S9.keep B
 clear S9
 refine t 15 (bF) (t 16 (bF) (t 17 (bF) (t 18 (.agg #[iU 64,iU 100000,iU 16,iU 10000,iU 0,iU 0,iU 0,iU 0,iU 0,iU 16]) (tc 19 5 #[.agg #[iU 64,iU 100000,iU 16,iU 10000,iU 0,iU 0,iU 0,iU 0,iU 0,iU 16]] (fitL (r:=true) (by decide)) ?_))))
 rintro _ v5 ⟨rfl,B⟩
 refine ⟨_,rfl,?_⟩
 replace A:=A.keep B
 refine t 20 (bF) (t 21 (bF) (t 22 (bF) (t 23 (.agg #[iU 65,iU 1,iU 1,iU 0,iU 0,iU 0,iU 0,iU 0,iU 0,iU 16]) (tc 24 5 #[.agg #[iU 65,iU 1,iU 1,iU 0,iU 0,iU 0,iU 0,iU 0,iU 0,iU 16]] (fitL (r:=false) (by decide)) ?_))))
 rintro _ v6 ⟨rfl,B⟩
 refine ⟨_,rfl,?_⟩
 replace A:=A.keep B
 refine t 25 (bF) (gl_nil (ge_then (gc_no (gc_skip (ge_then (gc_seq (gc_reg (t 27 (.agg #[iI 4,iU 4,iU 0]) (tc 28 10 #[.agg #[iI 4,iU 4,iU 0]] (mkS (k:=4) (a:=4) (b:=0) ⟨by decide,by decide⟩ (by decide +kernel)) ?_)))))))))
 rintro _ v9 ⟨kv8,rfl,U7,B⟩
 refine ⟨_,rfl,?_⟩
 replace A:=A.keep B
 refine t 26 (.tuple #[kv8,iI 0]) (t 29 (kv8) (t 30 (iI 0) (t 2 (kv8) (t 3 (iI 0) (gl_nil (ge_then (gc_fr [(0,bF),(1,pg g),(2,kv8)] (gc_seq (gc_reg (t 31 (pg g) (t 32 (kv8) (t 33 (.agg #[iU 1,iU 0]) (tc 34 12 #[.agg #[iU 1,iU 0]] (put_acct (x:=1) (y:=0)) ?_)))))))))))))
 rintro _ v12 ⟨pv11,rfl,U10,B⟩
 refine ⟨_,rfl,?_⟩
 replace A:=A.keep B
 replace U7:=byu_keep U7 B
 refine tc 35 11 #[pg g,kv8,pv11] (setS A.sx U7 U10 (by decide +kernel) put_c (by omega) (by omega)) ?_
 rintro _ v14 ⟨rfl,K13,S,hK,hC⟩
 refine ⟨_,rfl,?_⟩
 replace U7:=A.byu U7 hC
 replace U10:=A.byu U10 hC
 replace A:=A.op S hK hC
 clear U10
 refine gl_nil (ge_then (gc_seq (gc_seq (gc_reg (t 36 (pg g) (tc 37 8 #[pg g] (check_C A.sx (by omega)) ?_))))))
 rintro _ v15 ⟨rfl,B⟩
 refine ⟨_,rfl,?_⟩
 replace A:=A.keep B
 replace U7:=byu_keep U7 B
 refine t 38 (bF) (gl_nil (ge_then (gc_no (gc_skip (ge_then (gc_seq (gc_reg (t 39 (pg g) (t 40 (kv8) (t 41 (.agg #[iU 0,iU 0]) (tc 42 12 #[.agg #[iU 0,iU 0]] (put_acct (x:=0) (y:=0)) ?_)))))))))))
 rintro _ v18 ⟨pv17,rfl,U16,B⟩
 refine ⟨_,rfl,?_⟩
 replace A:=A.keep B
 replace U7:=byu_keep U7 B
 refine tc 43 11 #[pg g,kv8,pv17] (setS A.sx U7 U16 (by decide +kernel) put_d (by omega) (by omega)) ?_
 rintro _ v20 ⟨rfl,K19,S,hK,hC⟩
 refine ⟨_,rfl,?_⟩
 replace U7:=A.byu U7 hC
 replace U16:=A.byu U16 hC
 replace A:=A.op S hK hC
 clear U16
 refine gl_nil (ge_then (gc_seq (gc_reg (t 44 (pg g) (tc 45 8 #[pg g] (check_D A.sx (by omega)) ?_)))))
 rintro _ v21 ⟨rfl,B⟩
 refine ⟨_,rfl,?_⟩
 replace A:=A.keep B
 replace U7:=byu_keep U7 B
 refine t 46 (bT) (t 0 (bT) (gl_nil (ge_then (gc_ret (ge_ret (bT) (rs1 0 (by kernel_rfl) (by kernel_rfl)) ?_)))))
 exact ⟨rfl,BC.trans (A.cc.below hK1 BC.size)⟩
theorem run_bb {ρ:Operand->Value} {o:Oper} {w:World} (b:Bool) (ho:∃ x y T U,o.op=.binOp .eql T x y U/\(T=4/\U=4)/\ρ x=.bool b/\ρ y=.bool b:=by exact ⟨_,_,_,_,rfl,⟨rfl,rfl⟩,by kernel_rfl,by kernel_rfl⟩):(execOp ρ o).run Tryz.prog w=.ok (.value (.bool true)) w:=by
 obtain ⟨x,y,T,U,h,⟨rfl,rfl⟩,h1,h2⟩:=ho
 simp only [execOp,h,h1,h2]
 cases b<;>kernel_rfl
theorem soundParams_walk {w:World} {x0 x1 x2 x3 x4 x5 x6 x7 x8 x9:Int}:Calls Tryz.prog 3 #[.agg #[.int .u64 x0,.int .u64 x1,.int .u64 x2,.int .u64 x3,.int .u64 x4,.int .u64 x5,.int .u64 x6,.int .u64 x7,.int .u64 x8,.int .u64 x9]] w fun e w'=>e=.returned (.bool true)/\Below w.heap.size w w':=by
 have BB:=Below.refl w.heap.size w
 refine gc_enter (n:=11) Tryz.func3 rfl ?_
 refine gc_seq (gc_reg (ta 1 [iU x0,iU x1,iU x2,iU x3,iU x4,iU x5,iU x6,iU x7,iU x8,iU x9] 24 (pg) ?_))
 intro v1 g2 Xg2 hg2 B
 replace BB:=joinB BB B
 refine t 2 (bF) (gl_nil (ge_then (gc_seq ?_)))
 replace BB:=BB.drew
 replace Xg2:=Xg2.drew
 refine gc_draw (fun w'=>Blk w' g2 [iU x0,iU x1,iU x2,iU x3,iU x4,iU x5,iU x6,iU x7,iU x8,iU x9] 24) (fun _=>false) Xg2 ?_
 refine zc 0 3 4 #[] (known19) ?_
 rintro _ v3 ⟨rfl,B⟩
 replace BB:=joinB BB B
 replace Xg2:=Xg2.keep B
 refine ⟨_,rfl,Xg2,?_⟩
 refine z 1 4 (bT) (zlr 2 5 [iU x0,iU x1,iU x2,iU x3,iU x4,iU x5,iU x6,iU x7,iU x8,iU x9] (fun _ h=>h) 0 (zlr 4 7 [iU x0,iU x1,iU x2,iU x3,iU x4,iU x5,iU x6,iU x7,iU x8,iU x9] (fun _ h=>h) 0 (zc 3 6 5 #[.agg #[iU x0,iU x1,iU x2,iU x3,iU x4,iU x5,iU x6,iU x7,iU x8,iU x9]] (fit_any) ?_)))
 rintro _ v4 ⟨rfl,B⟩
 replace BB:=joinB BB B
 replace Xg2:=Xg2.keep B
 refine ⟨_,rfl,Xg2,?_⟩
 refine zc 5 8 6 #[.agg #[iU x0,iU x1,iU x2,iU x3,iU x4,iU x5,iU x6,iU x7,iU x8,iU x9]] (rfit_any) ?_
 rintro _ v5 ⟨rfl,B⟩
 replace BB:=joinB BB B
 replace Xg2:=Xg2.keep B
 refine ⟨_,rfl,Xg2,?_⟩
 refine zr 6 9 (bT) (fun _ _=>run_bb (fit x0 x1 x2 x3 x4 x5 x6 x7 x8 x9)) (z 7 10 (bT) (z 8 2 (bT) (gz_done (ge_then (gc_fr [(2,bT)] (gc_ret (ge_ret (bT) (rs1 2 (by kernel_rfl) (by kernel_rfl)) ?_)))))))
 exact ⟨rfl,BB⟩
end Sd
end Go.Proofs.YtopifdikfhffgaaGreat
