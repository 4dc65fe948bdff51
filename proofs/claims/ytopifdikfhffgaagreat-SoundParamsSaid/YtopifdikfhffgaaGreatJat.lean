/- Several texts, joined: SdD. -/
import Derived.Test.YtopifdikfhffgaaGreatJar
import Derived.Test.YtopifdikfhffgaaGreatJas
set_option maxRecDepth 100000
set_option maxHeartbeats 8000000
namespace Go.Proofs.YtopifdikfhffgaaGreat
namespace Sd
open Go.RowKit Go.Lib Pg Lim Gl Kv Bk Pw
attribute [local go_sem] Oper.semAt_some
set_option linter.unusedSimpArgs false
set_option linter.unusedVariables false
theorem number {B:Nat} {w:World} {K:Nat->Prop} {g:Nat} {E:Ents} {n N:Nat} {k m0:Int} (P:Bare E) (h:Sx B w K g E [] n N) (hOf:∀ w,Calls Tryz.prog 163 #[.int .i64 k] w fun e w'=>∃ v,e=.returned (.tuple #[v,.int .i64 0])/\OB w' (w.heap.size <= ·) v [m0]/\Below w.heap.size w w') (h0:E.filter (fun x=>decide ([m0] <+: x.1))=[]) (hn:n<=100000) (hN:N<=1000):Calls Tryz.prog 108 #[pg g,.int .i64 k] w (RlE B w K g E n N 1 (.int .i64 0)):=by
 have A:=h.at
 have DF:=Dfs.nil w.heap.size w
 refine gc_enterM (n:=14) Tryz.func108 rfl (by kernel_rfl) (by kernel_rfl) ?_
 refine gc_seq (gc_reg (t 4 (iI 0) (gl_nil (ge_then (gc_seq (gc_reg (ta 5 [iI 0] 3 (pg) ?_)))))))
 intro v1 g2 Xg2 hg2 B
 obtain ⟨zg2,nXg2,A⟩:=A.al hg2 B
 replace DF:=DF.keep B
 refine ts Xg2 0 (iI 0) [iI 0] [iI 0] ?_
 intro v3 Y C
 replace A:=Bk.At.cell A Xg2 C zg2 nXg2 (by decide)
 replace DF:=DF.cell Xg2 C
 have Xg2:=Y
 refine gl_nil (ge_then (gc_seq (gc_seq (gc_reg (t 6 (pg g) (t 7 (iI k) (tc 8 86 #[pg g,iI k] (laid_mt A.sx (by omega) (by omega) hOf h0) ?_)))))))
 rintro _ v7 ⟨gf4,lb5,rfl,M6,B⟩
 refine ⟨_,rfl,?_⟩
 replace A:=A.keep B
 replace DF:=DF.keep B
 replace Xg2:=Xg2.keep B
 refine gl_nil (ge_then (gc_block (gc_mt M6 (A.lt A.sx.sa.top) ?_)))
 intro D8 v9 hD8 kD8 S C
 have hC:=C.mono (F':=K) (fun y _ e=>by have e':y=g:=e; rw [e']; exact A.sx.sa.top)
 have hK:∀ b,K b->K b\/v7.heap.size<=b:=fun _ h=>.inl h
 have DF2:=DF.op A.sx.sa hC
 replace DF:=DF.add hD8 A.size DF2 kD8
 clear DF2 hD8 kD8
 clear M6
 obtain ⟨Xg2,nXg2⟩:=bk_op Xg2 nXg2 hK hC
 replace A:=A.op S hK hC
 refine ge_bn (ge_then (gc_seq (gc_reg (tl 13 (iI 0) Xg2 0 (t 4 (iI 0) (gl_nil (ge_then (gc_ret (ge_retD (b:=w.heap.size) (v:=iI 0) [D8] DF (rsM 4 (by kernel_rfl) (by kernel_rfl)) ?_)))))))))
 intro Vz Rz
 exact At.rle A Rz (by omega)
theorem und_mc:Tryz.prog.underlying 172=some (.map 35 180):=by kernel_rfl
theorem run_lenM {ρ:Operand->Value} {o:Oper} {w:World} {bm:Nat} (h:MapS w bm (.map #[] 0)) (ho:∃ x,o.op=.call { callee:=.builtin .len,args:=#[x],argTypes:=#[172] }/\ρ x=.map (some bm):=by exact ⟨_,rfl,by kernel_rfl⟩):(execOp ρ o).run Tryz.prog w=.ok (.value (.int .i64 0)) w:=by
 obtain ⟨x,h1,h2⟩:=ho
 unfold execOp
 simp only [h1,resolve,invoke,builtin,Sem.run_bind,Sem.run_pure,Result.andThen_ok,List.map_toArray,List.map_cons,List.map_nil,h2]
 simp [Builtin.len_,run_underlying und_mc,MapKept.run_getObj_map h.ob,Sem.run_bind,Sem.run_pure]
 rfl
theorem countsM {B:Nat} {w:World} {K:Nat->Prop} {g:Nat} {E:Ents} {n N:Nat} {bm:Nat} (P:Bare E) (h:Sx B w K g E [] n N) (Q:MapS w bm (.map #[] 0)) (hn:n<=100000) (hN:N<=1000):Calls Tryz.prog 109 #[pg g,.map (some bm)] w (RlE B w K g E n N 2 (.bool true)):=by
 have A:=h.at
 have DF:=Dfs.nil w.heap.size w
 refine gc_enterM (n:=37) Tryz.func109 rfl (by kernel_rfl) (by kernel_rfl) ?_
 refine gc_seq (gc_reg (ta 3 [.map (some bm)] 172 (pg) ?_))
 intro v1 g2 Xg2 hg2 B
 obtain ⟨zg2,nXg2,A⟩:=A.al hg2 B
 replace DF:=DF.keep B
 replace Q:=Q.keep B
 have lXg2:=Xg2.lt
 refine ta 4 [bF] 4 (pg) ?_
 intro v3 g4 Xg4 hg4 B
 obtain ⟨zg4,nXg4,A⟩:=A.al hg4 B
 replace DF:=DF.keep B
 replace Q:=Q.keep B
 replace Xg2:=Xg2.keep B
 refine gl_nil (ge_then (gc_seq (gc_reg (t 9 (pg g) (tc 10 74 #[pg g] (paramsS A.sx P.par (by omega) (by omega)) ?_)))))
 rintro _ v6 ⟨rfl,K5,S,hK,hC⟩
 refine ⟨_,rfl,?_⟩
 replace DF:=DF.op A.sx.sa hC
 replace Q:=Q.op A.sx.sa hC
 obtain ⟨Xg2,nXg2⟩:=bk_op Xg2 nXg2 hK hC
 obtain ⟨Xg4,nXg4⟩:=bk_op Xg4 nXg4 hK hC
 replace A:=A.op S hK hC
 refine t 11 (iU 1) ?_
 have lXg2:=Xg2.lt
 have lXg4:=Xg4.lt
 refine ta 5 [iI 0] 3 (pg) ?_
 intro v7 g8 Xg8 hg8 B
 obtain ⟨zg8,nXg8,A⟩:=A.al hg8 B
 replace DF:=DF.keep B
 replace Q:=Q.keep B
 replace Xg2:=Xg2.keep B
 replace Xg4:=Xg4.keep B
 have lXg2:=Xg2.lt
 have lXg4:=Xg4.lt
 have lXg8:=Xg8.lt
 refine ta 6 [iU 0] 22 (pg) ?_
 intro v9 g10 Xg10 hg10 B
 obtain ⟨zg10,nXg10,A⟩:=A.al hg10 B
 replace DF:=DF.keep B
 replace Q:=Q.keep B
 replace Xg2:=Xg2.keep B
 replace Xg4:=Xg4.keep B
 replace Xg8:=Xg8.keep B
 refine ts Xg8 0 (iI 0) [iI 0] [iI 0] ?_
 intro v11 Y C
 replace A:=Bk.At.cell A Xg8 C zg8 nXg8 (by decide)
 replace DF:=DF.cell Xg8 C
 replace Q:=Q.cell Xg8 C
 replace Xg2:=Xg2.chg C (show g2≠g8 by omega)
 replace Xg4:=Xg4.chg C (show g4≠g8 by omega)
 replace Xg10:=Xg10.chg C (show g10≠g8 by omega)
 have Xg8:=Y
 refine ts Xg10 0 (iU 1) [iU 1] [iU 1] ?_
 intro v12 Y C
 replace A:=Bk.At.cell A Xg10 C zg10 nXg10 (by decide)
 replace DF:=DF.cell Xg10 C
 replace Q:=Q.cell Xg10 C
 replace Xg2:=Xg2.chg C (show g2≠g10 by omega)
 replace Xg4:=Xg4.chg C (show g4≠g10 by omega)
 replace Xg8:=Xg8.chg C (show g8≠g10 by omega)
 have Xg10:=Y
 refine gl_nil (ge_then (gc_seq (gc_seq (gc_reg (t 12 (pg g) (tc 13 194 #[pg g,iI 17,.func (.func 137) #[] #[]] (recs_uint64 A.sx (by omega) (by omega) of17 (P.no 107 (by decide))) ?_))))))
 rintro _ v16 ⟨gf13,lb14,rfl,M15,B⟩
 refine ⟨_,rfl,?_⟩
 replace A:=A.keep B
 replace DF:=DF.keep B
 replace Q:=Q.keep B
 replace Xg2:=Xg2.keep B
 replace Xg4:=Xg4.keep B
 replace Xg8:=Xg8.keep B
 replace Xg10:=Xg10.keep B
 refine gl_nil (ge_then (gc_block (gc_mt M15 (A.lt A.sx.sa.top) ?_)))
 intro D17 v18 hD17 kD17 S C
 have hC:=C.mono (F':=K5) (fun y _ e=>by have e':y=g:=e; rw [e']; exact A.sx.sa.top)
 have hK:∀ b,K5 b->K5 b\/v16.heap.size<=b:=fun _ h=>.inl h
 have DF2:=DF.op A.sx.sa hC
 replace DF:=DF.add hD17 A.size DF2 kD17
 clear DF2 hD17 kD17
 clear M15
 replace Q:=Q.op A.sx.sa hC
 obtain ⟨Xg2,nXg2⟩:=bk_op Xg2 nXg2 hK hC
 obtain ⟨Xg4,nXg4⟩:=bk_op Xg4 nXg4 hK hC
 obtain ⟨Xg8,nXg8⟩:=bk_op Xg8 nXg8 hK hC
 obtain ⟨Xg10,nXg10⟩:=bk_op Xg10 nXg10 hK hC
 replace A:=A.op S hK hC
 refine ge_bn (ge_then (gc_seq (gc_reg (tl 33 (iI 0) Xg8 0 (tl 34 (.map (some bm)) Xg2 0 (tr 35 (iI 0) (run_lenM Q) (t 36 (bT) (ts Xg4 0 (bT) [bT] [bT] ?_))))))))
 intro v19 Y C
 replace A:=Bk.At.cell A Xg4 C zg4 nXg4 (by decide)
 replace Q:=Q.cell Xg4 C
 replace Xg2:=Xg2.chg C (show g2≠g4 by omega)
 replace Xg8:=Xg8.chg C (show g8≠g4 by omega)
 replace Xg10:=Xg10.chg C (show g10≠g4 by omega)
 replace DF:=DF.cell Xg4 C
 have Xg4:=Y
 refine gl_nil (ge_then (gc_fr [(4,pg g4)] (gc_ret (ge_retD (b:=w.heap.size) (v:=bT) [D17] DF (rscM 4 Xg4 (fun _ h=>l1 h 0) (by kernel_rfl) (by kernel_rfl)) ?_))))
 intro Vz Rz
 exact At.rle A Rz (by omega)
theorem ent_mk {w:World} {g:Nat}:Calls Tryz.prog 105 #[pg g] w fun e w'=>∃ ba,e=.returned (.func (.func 191) #[] #[pg ba])/\w.heap.size<=ba/\Blk w' ba [pg g] 27/\Below w.heap.size w w':=by
 have BB:=Below.refl w.heap.size w
 refine gc_enter (n:=4) Tryz.func105 rfl ?_
 refine gc_seq (gc_reg (ta 1 [pg g] 27 (pg) ?_))
 intro v1 g2 Xg2 hg2 B
 replace BB:=joinB BB B
 refine t 2 (.nilFunc) (gl_nil (ge_then (gc_seq (gc_reg (t 3 (.func (.func 191) #[] #[pg g2]) (t 2 (.func (.func 191) #[] #[pg g2]) (gl_nil (ge_then (gc_ret (ge_ret (.func (.func 191) #[] #[pg g2]) (rs1 2 (by kernel_rfl) (by kernel_rfl)) ?_))))))))))
 exact ⟨_,rfl,hg2,Xg2,BB⟩
theorem ent_run {B:Nat} {w:World} {K:Nat->Prop} {g:Nat} {E:Ents} {n N:Nat} {ba l:Nat} (P:Bare E) (h:Sx B w K g E [] n N) (Xa:Blk w ba [pg g] 27) (na:¬ K ba) (hn:n<=100000) (hN:N<=1000):Calls Tryz.prog 191 #[.func (.yield l) #[] #[],pg ba] w fun e w'=>(∃ u,e=.returned u)/\Sx B w' K g E [] (n + 2) N/\Chg (· = g) w w':=by
 have A:=h.at
 have DF:=Dfs.nil w.heap.size w
 refine gc_enterM (n:=76) Tryz.func191 rfl (by kernel_rfl) (by kernel_rfl) ?_
 have CG:Chg (· = g) w w:=Chg.refl _ _
 have nXa:¬ K ba:=na
 refine gc_seq (gc_reg ?_)
 have lXa:=Xa.lt
 refine ta 2 [.func (.yield l) #[] #[]] 291 (pg) ?_
 intro v1 g2 Xg2 hg2 B
 obtain ⟨zg2,nXg2,A⟩:=A.al hg2 B
 replace DF:=DF.keep B
 replace Xa:=Xa.keep B
 replace CG:=chgB CG B
 refine gl_nil (ge_then (gc_seq (gc_seq (gc_reg (tl 10 (pg g) Xa 0 (tc 11 99 #[pg g,iI 12,.func (.func 100) #[] #[]] (recs_Unbonding A.sx (by omega) (by omega) of12 (P.no 117 (by decide))) ?_))))))
 rintro _ v6 ⟨gf3,lb4,rfl,M5,B⟩
 refine ⟨_,rfl,?_⟩
 replace A:=A.keep B
 replace DF:=DF.keep B
 replace Xa:=Xa.keep B
 replace CG:=chgB CG B
 replace Xg2:=Xg2.keep B
 refine gl_nil (ge_then (gc_block (gc_mt M5 (A.lt A.sx.sa.top) ?_)))
 intro D7 v8 hD7 kD7 S C
 have hC:=C.mono (F':=K) (fun y _ e=>by have e':y=g:=e; rw [e']; exact A.sx.sa.top)
 have hK:∀ b,K b->K b\/v6.heap.size<=b:=fun _ h=>.inl h
 have Cg:=C
 have DF2:=DF.op A.sx.sa hC
 replace DF:=DF.add hD7 A.size DF2 kD7
 clear DF2 hD7 kD7
 clear M5
 replace CG:=CG.trans Cg (fun _ _ h=>h)
 clear Cg
 obtain ⟨Xa,nXa⟩:=bk_op Xa nXa hK hC
 obtain ⟨Xg2,nXg2⟩:=bk_op Xg2 nXg2 hK hC
 replace A:=A.op S hK hC
 refine ge_bn (ge_then (gc_seq (gc_reg (tl 45 (pg g) Xa 0 (tc 46 192 #[pg g,iI 13,.func (.func 141) #[] #[]] (recs_Move A.sx (by omega) (by omega) of13 (P.no 114 (by decide))) ?_)))))
 rintro _ v12 ⟨gf9,lb10,rfl,M11,B⟩
 refine ⟨_,rfl,?_⟩
 replace A:=A.keep B
 replace Xa:=Xa.keep B
 replace CG:=chgB CG B
 replace Xg2:=Xg2.keep B
 replace DF:=DF.keep B
 refine gl_nil (ge_then (gc_block (gc_mt M11 (A.lt A.sx.sa.top) ?_)))
 intro D13 v14 hD13 kD13 S C
 have hC:=C.mono (F':=K) (fun y _ e=>by have e':y=g:=e; rw [e']; exact A.sx.sa.top)
 have hK:∀ b,K b->K b\/v12.heap.size<=b:=fun _ h=>.inl h
 have Cg:=C
 have DF2:=DF.op A.sx.sa hC
 replace DF:=DF.add hD13 A.size DF2 kD13
 clear DF2 hD13 kD13
 clear M11
 replace CG:=CG.trans Cg (fun _ _ h=>h)
 clear Cg
 obtain ⟨Xa,nXa⟩:=bk_op Xa nXa hK hC
 obtain ⟨Xg2,nXg2⟩:=bk_op Xg2 nXg2 hK hC
 replace A:=A.op S hK hC
 refine ge_bn (ge_endD (b:=w.heap.size) [D13,D7] DF (by kernel_rfl) ?_)
 intro Vz Rz
 exact ⟨⟨_,rfl⟩,sx_rcd A.sx Rz,chg_rcd CG Rz (Nat.le_refl _)⟩
theorem ent_mt {B:Nat} {w:World} {K:Nat->Prop} {g:Nat} {E:Ents} {n N:Nat} (P:Bare E) (h:Sx B w K g E [] n N) (hn:n<=100000) (hN:N<=1000):Calls Tryz.prog 105 #[pg g] w fun e w'=>∃ gf lb,e=.returned (.func (.func gf) #[] lb)/\Mt B K g E [] n N 2 w' (.func (.func gf) #[] lb)/\Below w.heap.size w w':=by
 refine ent_mk.mono ?_
 rintro e w' ⟨ba,rfl,hba,Xa,Bw⟩
 exact ⟨_,_,rfl,⟨_,_,rfl,enters_of Tryz.func191 (by kernel_rfl) rfl,fun V l hb=>ent_run P ((h.keep Bw).keep hb) (Xa.keep hb) (nk_new h hba) hn hN⟩,Bw⟩
theorem r11 {B:Nat} {w:World} {K:Nat->Prop} {g:Nat} {E:Ents} {n N:Nat}  (P:Bare E) (h:Sx B w K g E [] n N) (hn:n<=50000) (hN:N<=1000):Calls Tryz.prog 45 #[pg g] w (RlE B w K g E n N 10 (.bool true)):=by
 have A:=h.at
 have DF:=Dfs.nil w.heap.size w
 refine gc_enterM (n:=59) Tryz.func45 rfl (by kernel_rfl) (by kernel_rfl) ?_
 refine gc_seq (gc_reg (ta 1 [pg g] 27 (pg) ?_))
 intro v1 g2 Xg2 hg2 B
 obtain ⟨zg2,nXg2,A⟩:=A.al hg2 B
 replace DF:=DF.keep B
 have lXg2:=Xg2.lt
 refine ta 2 [bF] 4 (pg) ?_
 intro v3 g4 Xg4 hg4 B
 obtain ⟨zg4,nXg4,A⟩:=A.al hg4 B
 replace DF:=DF.keep B
 replace Xg2:=Xg2.keep B
 refine gl_nil (ge_then (gc_seq (gc_reg (tl 8 (pg g) Xg2 0 (tc 9 81 #[pg g] (chainS A.sx P.chn (by omega) (by omega)) ?_)))))
 rintro _ v6 ⟨rfl,K5,S,hK,hC⟩
 refine ⟨_,rfl,?_⟩
 replace DF:=DF.op A.sx.sa hC
 obtain ⟨Xg2,nXg2⟩:=bk_op Xg2 nXg2 hK hC
 obtain ⟨Xg4,nXg4⟩:=bk_op Xg4 nXg4 hK hC
 replace A:=A.op S hK hC
 refine tmk 10 ?_
 intro v7 bm8 hM hbm B
 replace A:=A.keep B
 replace DF:=DF.keep B
 replace Xg2:=Xg2.keep B
 replace Xg4:=Xg4.keep B
 clear B hbm
 have Q9:MapS v7 bm8 (.map #[] 0):=⟨hM⟩
 clear hM
 have lXg2:=Xg2.lt
 have lXg4:=Xg4.lt
 refine ta 3 [iU 0,iU 0] 44 (pg) ?_
 intro v10 g11 Xg11 hg11 B
 obtain ⟨zg11,nXg11,A⟩:=A.al hg11 B
 replace DF:=DF.keep B
 replace Xg2:=Xg2.keep B
 replace Xg4:=Xg4.keep B
 replace Q9:=Q9.keep B
 have lXg2:=Xg2.lt
 have lXg4:=Xg4.lt
 have lXg11:=Xg11.lt
 refine ta 4 [iI 0] 3 (pg) ?_
 intro v12 g13 Xg13 hg13 B
 obtain ⟨zg13,nXg13,A⟩:=A.al hg13 B
 replace DF:=DF.keep B
 replace Xg2:=Xg2.keep B
 replace Xg4:=Xg4.keep B
 replace Q9:=Q9.keep B
 replace Xg11:=Xg11.keep B
 have lXg2:=Xg2.lt
 have lXg4:=Xg4.lt
 have lXg11:=Xg11.lt
 have lXg13:=Xg13.lt
 refine ta 5 [.map none] 172 (pg) ?_
 intro v14 g15 Xg15 hg15 B
 obtain ⟨zg15,nXg15,A⟩:=A.al hg15 B
 replace DF:=DF.keep B
 replace Xg2:=Xg2.keep B
 replace Xg4:=Xg4.keep B
 replace Q9:=Q9.keep B
 replace Xg11:=Xg11.keep B
 replace Xg13:=Xg13.keep B
 refine ts Xg11 0 (.agg #[iU 1,iU 1]) [iU 1,iU 1] [iU 1,iU 1] ?_
 intro v16 Y C
 replace A:=Bk.At.cell A Xg11 C zg11 nXg11 (by decide)
 replace DF:=DF.cell Xg11 C
 replace Xg2:=Xg2.chg C (show g2≠g11 by omega)
 replace Xg4:=Xg4.chg C (show g4≠g11 by omega)
 replace Q9:=Q9.cell Xg11 C
 replace Xg13:=Xg13.chg C (show g13≠g11 by omega)
 replace Xg15:=Xg15.chg C (show g15≠g11 by omega)
 have Xg11:=Y
 refine ts Xg13 0 (iI 0) [iI 0] [iI 0] ?_
 intro v17 Y C
 replace A:=Bk.At.cell A Xg13 C zg13 nXg13 (by decide)
 replace DF:=DF.cell Xg13 C
 replace Xg2:=Xg2.chg C (show g2≠g13 by omega)
 replace Xg4:=Xg4.chg C (show g4≠g13 by omega)
 replace Q9:=Q9.cell Xg13 C
 replace Xg11:=Xg11.chg C (show g11≠g13 by omega)
 replace Xg15:=Xg15.chg C (show g15≠g13 by omega)
 have Xg13:=Y
 refine ts Xg15 0 (.map (some bm8)) [.map (some bm8)] [.map (some bm8)] ?_
 intro v18 Y C
 replace A:=Bk.At.cell A Xg15 C zg15 nXg15 (by decide)
 replace DF:=DF.cell Xg15 C
 replace Xg2:=Xg2.chg C (show g2≠g15 by omega)
 replace Xg4:=Xg4.chg C (show g4≠g15 by omega)
 replace Q9:=Q9.cell Xg15 C
 replace Xg11:=Xg11.chg C (show g11≠g15 by omega)
 replace Xg13:=Xg13.chg C (show g13≠g15 by omega)
 have Xg15:=Y
 refine gl_nil (ge_then (gc_seq (gc_seq (gc_reg (tl 11 (pg g) Xg2 0 (tc 12 105 #[pg g] (ent_mt P A.sx (by omega) (by omega)) ?_))))))
 rintro _ v22 ⟨gf19,lb20,rfl,M21,B⟩
 refine ⟨_,rfl,?_⟩
 replace A:=A.keep B
 replace DF:=DF.keep B
 replace Xg2:=Xg2.keep B
 replace Xg4:=Xg4.keep B
 replace Q9:=Q9.keep B
 replace Xg11:=Xg11.keep B
 replace Xg13:=Xg13.keep B
 replace Xg15:=Xg15.keep B
 refine gl_nil (ge_then (gc_block (gc_mt M21 (A.lt A.sx.sa.top) ?_)))
 intro D23 v24 hD23 kD23 S C
 have hC:=C.mono (F':=K5) (fun y _ e=>by have e':y=g:=e; rw [e']; exact A.sx.sa.top)
 have hK:∀ b,K5 b->K5 b\/v22.heap.size<=b:=fun _ h=>.inl h
 have DF2:=DF.op A.sx.sa hC
 replace DF:=DF.add hD23 A.size DF2 kD23
 clear DF2 hD23 kD23
 clear M21
 replace Q9:=Q9.op A.sx.sa hC
 obtain ⟨Xg2,nXg2⟩:=bk_op Xg2 nXg2 hK hC
 obtain ⟨Xg4,nXg4⟩:=bk_op Xg4 nXg4 hK hC
 obtain ⟨Xg11,nXg11⟩:=bk_op Xg11 nXg11 hK hC
 obtain ⟨Xg13,nXg13⟩:=bk_op Xg13 nXg13 hK hC
 obtain ⟨Xg15,nXg15⟩:=bk_op Xg15 nXg15 hK hC
 replace A:=A.op S hK hC
 refine ge_bn (ge_then (gc_seq ?_))
 replace A:=A.drew
 replace Xg2:=Xg2.drew
 replace Xg4:=Xg4.drew
 replace Q9:=Q9.drew
 replace Xg11:=Xg11.drew
 replace Xg13:=Xg13.drew
 replace Xg15:=Xg15.drew
 replace DF:=DF.drew
 refine gc_draw (fun w'=>Blk w' g2 [pg g] 27/\Blk w' g13 [iI 0] 3/\Blk w' g15 [.map (some bm8)] 172) (fun _=>false) ⟨Xg2,Xg13,Xg15⟩ ?_
 refine zl 0 44 (pg g) (fun _ h=>h.1) 0 (zl 2 46 (iI 0) (fun _ h=>h.2.1) 0 (zc 1 45 108 #[pg g,iI 14] (number P A.sx of14 (P.no 113 (by decide)) (by omega) (by omega)) ?_))
 rintro _ v27 ⟨rfl,K25,n26,S,qn26,hK,hC⟩
 replace DF:=DF.op A.sx.sa hC
 replace Q9:=Q9.op A.sx.sa hC
 obtain ⟨Xg2,nXg2⟩:=bk_op Xg2 nXg2 hK hC
 obtain ⟨Xg4,nXg4⟩:=bk_op Xg4 nXg4 hK hC
 obtain ⟨Xg11,nXg11⟩:=bk_op Xg11 nXg11 hK hC
 obtain ⟨Xg13,nXg13⟩:=bk_op Xg13 nXg13 hK hC
 obtain ⟨Xg15,nXg15⟩:=bk_op Xg15 nXg15 hK hC
 replace A:=A.op S hK hC
 refine ⟨_,rfl,⟨Xg2,Xg13,Xg15⟩,?_⟩
 refine z 3 47 (bT) (z 4 48 (bT) (zl 5 49 (pg g) (fun _ h=>h.1) 0 (zl 7 51 (iI 0) (fun _ h=>h.2.1) 0 (zc 6 50 108 #[pg g,iI 15] (number P A.sx of15 (P.no 101 (by decide)) (by omega) (by omega)) ?_))))
 rintro _ v30 ⟨rfl,K28,n29,S,qn29,hK,hC⟩
 replace DF:=DF.op A.sx.sa hC
 replace Q9:=Q9.op A.sx.sa hC
 obtain ⟨Xg2,nXg2⟩:=bk_op Xg2 nXg2 hK hC
 obtain ⟨Xg4,nXg4⟩:=bk_op Xg4 nXg4 hK hC
 obtain ⟨Xg11,nXg11⟩:=bk_op Xg11 nXg11 hK hC
 obtain ⟨Xg13,nXg13⟩:=bk_op Xg13 nXg13 hK hC
 obtain ⟨Xg15,nXg15⟩:=bk_op Xg15 nXg15 hK hC
 replace A:=A.op S hK hC
 refine ⟨_,rfl,⟨Xg2,Xg13,Xg15⟩,?_⟩
 refine z 8 52 (bT) (z 9 53 (bT) (z 10 54 (bT) (zl 11 55 (pg g) (fun _ h=>h.1) 0 (zl 12 56 (.map (some bm8)) (fun _ h=>h.2.2) 0 (zc 13 57 109 #[pg g,.map (some bm8)] (countsM P A.sx Q9 (by omega) (by omega)) ?_)))))
 rintro _ v33 ⟨rfl,K31,n32,S,qn32,hK,hC⟩
 replace DF:=DF.op A.sx.sa hC
 replace Q9:=Q9.op A.sx.sa hC
 obtain ⟨Xg2,nXg2⟩:=bk_op Xg2 nXg2 hK hC
 obtain ⟨Xg4,nXg4⟩:=bk_op Xg4 nXg4 hK hC
 obtain ⟨Xg11,nXg11⟩:=bk_op Xg11 nXg11 hK hC
 obtain ⟨Xg13,nXg13⟩:=bk_op Xg13 nXg13 hK hC
 obtain ⟨Xg15,nXg15⟩:=bk_op Xg15 nXg15 hK hC
 replace A:=A.op S hK hC
 refine ⟨_,rfl,⟨Xg2,Xg13,Xg15⟩,?_⟩
 refine z 14 58 (bT) (zs 15 Xg4 0 (bT) [bT] [bT] ?_)
 intro v34 Y C
 replace A:=Bk.At.cell A Xg4 C zg4 nXg4 (by decide)
 replace Xg2:=Xg2.chg C (show g2≠g4 by omega)
 replace Q9:=Q9.cell Xg4 C
 replace Xg11:=Xg11.chg C (show g11≠g4 by omega)
 replace Xg13:=Xg13.chg C (show g13≠g4 by omega)
 replace Xg15:=Xg15.chg C (show g15≠g4 by omega)
 replace DF:=DF.cell Xg4 C
 have Xg4:=Y
 refine ⟨⟨Xg2,Xg13,Xg15⟩,?_⟩
 refine gz_done (ge_then (gc_fr [(2,pg g4)] (gc_ret (ge_retD (b:=w.heap.size) (v:=bT) [D23] DF (rscM 2 Xg4 (fun _ h=>l1 h 0) (by kernel_rfl) (by kernel_rfl)) ?_))))
 intro Vz Rz
 exact At.rle A Rz (by omega)
theorem und_mo:Tryz.prog.underlying 154=some (.map 22 157):=by kernel_rfl
theorem run_lko {w:World} {bm clock:Nat} {es:Array MapEntry} {k:Int} {r:Option (Nat × Value)} (hb:w.heap[bm]? = some (.map es clock)) (hf:Instr.findNow (.int .u64) (.int .u64 k) es.toList 0=some r):(Instr.lookup 154 (.map (some bm)) (.int .u64 k) false).run Tryz.prog w=.ok (match r with | some (_,v)=>v | none=>.agg #[.slice none 0 0]) w:=by
 simp only [Instr.lookup,Sem.run_bind,run_underlying und_mo,Result.andThen_ok,MapKept.run_getObj_map hb,Sem.run_pure,MapKept.run_checkKey und_u (isk k),MapKept.run_findKey und_u hf]
 cases r with
 | none=>simp
 | some p=>obtain ⟨i,v⟩:=p; simp
theorem run_lkS {ρ:Operand->Value} {o:Oper} {w:World} {bm clock:Nat} {es:Array MapEntry} (k:Int) (v:Value) {r:Option (Nat × Value)} (Q:MapS w bm (.map es clock)) (hf:Instr.findNow (.int .u64) (.int .u64 k) es.toList 0=some r) (hv:(match r with | some (_,v)=>v | none=>.agg #[.slice none 0 0])=v) (ho:∃ x y,o.op=.lookup 154 x y false/\ρ x=.map (some bm)/\ρ y=.int .u64 k:=by exact ⟨_,_,rfl,by kernel_rfl,by kernel_rfl⟩):(execOp ρ o).run Tryz.prog w=.ok (.value v) w:=by
 obtain ⟨x,y,h,h1,h2⟩:=ho
 subst hv
 have:=run_lko Q.ob hf
 simp only [execOp,h,h1,h2]
 rw [Sem.run_bind,this]
 rfl
theorem run_muS {ρ:Operand->Value} {o:Oper} {w:World} {bm clock:Nat} {es:Array MapEntry} (k:Int) (v:Value) (Q:MapS w bm (.map es clock)) (hf:Instr.findNow (.int .u64) (.int .u64 k) es.toList 0=some none) (ho:∃ x y z,o.op=.mapUpdate 154 x y z/\ρ x=.map (some bm)/\ρ y=.int .u64 k/\ρ z=v:=by exact ⟨_,_,_,rfl,by kernel_rfl,by kernel_rfl,by kernel_rfl⟩):(execOp ρ o).run Tryz.prog w=.ok .skip (wset w bm (.map (es.push { key:=.int .u64 k,val:=v,born:=clock }) (clock + 1))):=by
 obtain ⟨x,y,z,h,h1,h2,h3⟩:=ho
 have hb:=Q.ob
 have:(Instr.mapUpdate 154 (.map (some bm)) (.int .u64 k) v).run Tryz.prog w=.ok () (wset w bm (.map (es.push { key:=.int .u64 k,val:=v,born:=clock }) (clock + 1))):=by
  simp only [Instr.mapUpdate,Sem.run_bind,run_underlying und_mo,Result.andThen_ok,MapKept.run_getObj_map hb,MapKept.run_checkKey und_u (isk k),MapKept.run_findKey und_u hf,MapKept.run_setObj_map _ hb]
  rfl
 simp only [execOp,h,h1,h2,h3]
 rw [Sem.run_bind,this]
 rfl
theorem natA0 (w:World) (a:Option Addr) (c:Nat):NatA w a 0 c 0:=⟨0,0,[],rfl,Nat.zero_le _,Words.nil,⟨.inl rfl,fun i hi=>by simp at hi⟩,rfl⟩
theorem nato0 {w:World} {a:Option Addr} {n c:Nat} (h:NatO w a n c 0):n=0:=by
 obtain ⟨b,o,l,h1,h2,h3,h4⟩:=h.ex
 rw [<- h1,isN_unique h3 isN_nil]
 rfl
section
variable {w w':World} {bm g:Nat} {es:Array MapEntry} {k:Nat}
theorem blk_map {x:Nat} {cs:List Value} {t:TypeId} (X:Blk w x cs t) (Q:MapS w bm (.map es k)) (C:Chg (· = bm) w w'):Blk w' x cs t:=X.chg C (fun e=>by have e':x=bm:=e; have:=X.blk.symm.trans (e'▸Q.ob); cases this)
theorem dfs_map {b:Nat} {Ds:List Nat} (h:Dfs b Ds w) (Q:MapS w bm (.map es k)) (C:Chg (· = bm) w w'):Dfs b Ds w':=⟨fun D hD=>⟨(h.mem D hD).1,(C.same D (h.lt hD) (fun e=>by have e':D=bm:=e; have:=(h.mem D hD).2.symm.trans (e'▸Q.ob); cases this)).trans (h.mem D hD).2⟩,h.nd⟩
theorem at_map {B:Nat} {w0:World} {K0 K:Nat->Prop} {E:Ents} {W:List Ents} {n N:Nat} (A:Bk.At B w0 K0 w K g E W n N) (Q:MapS w bm (.map es k)) (C:Chg (· = bm) w w') (hz:w0.heap.size<=bm):Bk.At B w0 K0 w' K g E W n N:=by
 have nb:∀ b,b=bm->∀ cs t,¬ Blk w b cs t:=fun b e cs t X=>by subst e; have:=X.blk.symm.trans Q.ob; cases this
 refine ⟨⟨A.sx.sa.chg C (fun b e hb => ?_) (fun b e cs X=>nb b e _ _ X),Nat.le_trans A.sx.lo C.size,A.sx.kb⟩,A.km,A.cc.trans C (fun b hb e=>by have e':b=bm:=e; omega)⟩
 obtain ⟨cs,t,X,_⟩:=A.sx.sa.kind b hb
 exact nb b e cs t X
end
theorem owe_any {w:World} {a:Option Addr} {c b3 bm:Nat} (X3:Blk w b3 [.map (some bm)] 154) (Q:MapS w bm (.map #[] 0)):Calls Tryz.prog 95 #[.int .u64 4,.agg #[.slice a 0 c],pg b3] w fun e w'=>∃ a1 d1,e=.returned (.tuple #[])/\MapS w' bm (.map #[⟨.int .u64 4,.agg #[.slice a1 0 d1],0⟩] 1)/\Chg (· = bm) w w':=by
 have CB:Chg (· = bm) w w:=Chg.refl _ _
 refine gc_enter (n:=14) Tryz.func95 rfl ?_
 refine gc_seq (gc_reg (ta 4 [.slice a 0 c] 107 (pg) ?_))
 intro v1 g2 Xg2 hg2 B
 replace CB:=chgB CB B
 replace X3:=X3.keep B
 replace Q:=Q.keep B
 refine gl_nil (ge_then ?_)
 replace CB:=CB.trans (Chg.of (F:=fun _=>False) (Below.refl _ _).drew) (fun _ _ h=>h.elim)
 replace X3:=X3.drew
 replace Q:=Q.drew
 replace Xg2:=Xg2.drew
 refine gc_draw (fun w'=>Blk w' b3 [.map (some bm)] 154/\Blk w' g2 [.slice a 0 c] 107/\MapS w' bm (.map #[] 0)) (fun i=>decide (9<=i)) ⟨X3,Xg2,Q⟩ ?_
 refine zl 0 5 (.map (some bm)) (fun _ h=>h.1) 0 (zp 1 6 (iU 4) (zl 2 7 (.map (some bm)) (fun _ h=>h.1) 0 (zp 3 8 (iU 4) (zr 4 9 (.agg #[.slice none 0 0]) (fun _ h=>run_lkS 4 (.agg #[.slice none 0 0]) h.2.2 (by rfl) (by rfl)) (zp 5 10 (.agg #[.slice none 0 0]) (zlr 6 11 [.slice a 0 c] (fun _ h=>h.2.1) 0 (zc 7 12 96 #[.agg #[.slice none 0 0],.agg #[.slice a 0 c]] (Fo.eAdd (natA0 _ _ _) (by decide) (natA0 _ _ _) (by decide)) ?_)))))))
 rintro _ v3 ⟨a1,k1,d1,z1,rfl,F1,hz1,hk1,B⟩
 obtain rfl:k1=0:=nato0 F1.o
 clear F1 hz1 hk1
 replace CB:=chgB CB B
 replace X3:=X3.keep B
 replace Q:=Q.keep B
 replace Xg2:=Xg2.keep B
 refine ⟨_,rfl,⟨X3,Xg2,Q⟩,?_⟩
 refine zr 8 13 (.agg #[.slice a1 0 d1]) (by intro _ _; kernel_rfl) (gz_late (yv 9 _ (run_muS 4 (.agg #[.slice a1 0 d1]) Q (by rfl)) ?_))
 have CQ:=wset_chg (w:=v3) bm (.map #[⟨iU 4,.agg #[.slice a1 0 d1],0⟩] 1)
 have Q2:MapS (wset v3 bm (.map #[⟨iU 4,.agg #[.slice a1 0 d1],0⟩] 1)) bm (.map #[⟨iU 4,.agg #[.slice a1 0 d1],0⟩] 1):=⟨wset_at Q.ob⟩
 refine gy_done (ge_end (.tuple #[]) (rs0 (by kernel_rfl)) ?_)
 exact ⟨_,_,rfl,Q2,CB.trans CQ (fun _ _ h=>h)⟩
theorem poolS {w:World} {v:Value} (h:ByU w v []):Calls Tryz.prog 102 #[v] w fun e w'=>∃ a c,e=.returned (.tuple #[.agg #[.slice a 0 c],.int .i64 80])/\Below w.heap.size w w':=by
 obtain ⟨b,ao,c,rfl,h2⟩:=bya h.byt
 refine (Rc.oPool h2 (by decide)).mono ?_
 rintro e w' ⟨a,n,c,rfl,⟨X,_⟩,B⟩
 rw [show Rc.outX (Rc.stPool []) 0=0 by decide +kernel] at X
 obtain rfl:=nato0 X.o
 rw [show Rc.outR (Rc.stPool [])=80 by decide +kernel]
 exact ⟨a,c,rfl,B⟩
theorem getS {B:Nat} {w:World} {K:Nat->Prop} {g:Nat} {E:Ents} {n N:Nat} {id c:Int} (h:Sx B w K g E [] n N) (hid:0<=id/\id < 18446744073709551616) (hc:coin E id=c) (hn:n<=1000000) (hN:N<=1000):Calls Tryz.prog 104 #[pg g,.int .u64 id] w (SxE B w K g E [] (n + 1) N (.agg #[.int .u64 c,.int .u64 (seqn E id)])):=by
 subst hc
 exact get_any h hid (by omega) (by omega)
theorem recPool {B:Nat} {w:World} {K:Nat->Prop} {g:Nat} {E:Ents} {n N:Nat} (h:Sx B w K g E [] n N) (hl:Kv.look E (Ky.mk 3 0 0)=none) (hn:n<=1000000) (hN:N<=1000):Calls Tryz.prog 101 #[pg g,.agg #[.int .i64 3,.int .u64 0,.int .u64 0],.func (.func 102) #[] #[]] w fun e w'=>∃ a c,SxE B w K g E [] (n + 1) N (.tuple #[.agg #[.slice a 0 c],.bool false]) e w':=by
 have A:=h.at
 refine gc_enter (n:=27) Tryz.func101 rfl ?_
 refine gc_seq (gc_reg (ta 4 [iI 3,iU 0,iU 0] 35 (pg) ?_))
 intro v1 g2 Xg2 hg2 B
 obtain ⟨zg2,nXg2,A⟩:=A.al hg2 B
 have lXg2:=Xg2.lt
 refine ta 6 [.slice none 0 0] 107 (pg) ?_
 intro v3 g4 Xg4 hg4 B
 obtain ⟨zg4,nXg4,A⟩:=A.al hg4 B
 replace Xg2:=Xg2.keep B
 refine t 7 (bF) (gl_nil (ge_then (gc_seq (gc_reg (t 13 (pg g) (tlr 14 [iI 3,iU 0,iU 0] Xg2 0 (tc 15 149 #[.agg #[iI 3,iU 0,iU 0]] (keyS ⟨by decide,by decide⟩ (by kernel_rfl)) ?_)))))))
 rintro _ v7 ⟨kv6,rfl,U5,B⟩
 refine ⟨_,rfl,?_⟩
 replace A:=A.keep B
 replace Xg2:=Xg2.keep B
 replace Xg4:=Xg4.keep B
 refine tc 16 187 #[pg g,kv6] (xgetN A.sx U5 hl (by omega) (by omega)) ?_
 rintro _ v10 ⟨gv8,rfl,U9,S,hC⟩
 refine ⟨_,rfl,?_⟩
 replace Xg2:=Xg2.chg hC nXg2
 replace Xg4:=Xg4.chg hC nXg4
 replace U5:=A.byu U5 hC
 replace A:=A.op S (fun _ h=>.inl h) hC
 clear U5
 refine t 12 (.tuple #[gv8,bF]) (t 17 (gv8) (t 18 (bF) (t 8 (gv8) (t 9 (bF) (gl_nil (ge_then (gc_fr [(2,.func (.func 102) #[] #[]),(6,pg g4),(7,bF),(8,gv8),(9,bF)] (gc_seq (gc_reg (t 20 (.func (.func 102) #[] #[]) (t 21 (gv8) (tc 22 102 #[gv8] (poolS U9) ?_))))))))))))
 rintro _ v11 ⟨pa,pc,rfl,B⟩
 refine ⟨_,rfl,?_⟩
 replace A:=A.keep B
 replace Xg2:=Xg2.keep B
 replace Xg4:=Xg4.keep B
 replace U9:=byu_keep U9 B
 clear U9
 refine t 19 (.tuple #[.agg #[.slice pa 0 pc],iI 80]) (t 23 (.agg #[.slice pa 0 pc]) (t 24 (iI 80) ?_))
 have lXg2:=Xg2.lt
 have lXg4:=Xg4.lt
 refine ta 10 [.slice none 0 0] 107 (pg) ?_
 intro v12 g13 Xg13 hg13 B
 obtain ⟨zg13,nXg13,A⟩:=A.al hg13 B
 replace Xg2:=Xg2.keep B
 replace Xg4:=Xg4.keep B
 refine ts Xg13 0 (.agg #[.slice pa 0 pc]) [.slice pa 0 pc] [.slice pa 0 pc] ?_
 intro v14 Y C
 replace A:=Bk.At.cell A Xg13 C zg13 nXg13 (by decide)
 replace Xg2:=Xg2.chg C (show g2≠g13 by omega)
 replace Xg4:=Xg4.chg C (show g4≠g13 by omega)
 have Xg13:=Y
 refine t 11 (iI 80) (gl_nil (ge_then (gc_seq (gc_reg (tlr 25 [.slice pa 0 pc] Xg13 0 (t 26 (bF) (ts Xg4 0 (.agg #[.slice pa 0 pc]) [.slice pa 0 pc] [.slice pa 0 pc] ?_)))))))
 intro v15 Y C
 replace A:=Bk.At.cell A Xg4 C zg4 nXg4 (by decide)
 replace Xg2:=Xg2.chg C (show g2≠g4 by omega)
 replace Xg13:=Xg13.chg C (show g13≠g4 by omega)
 have Xg4:=Y
 refine t 7 (bF) (gl_nil (ge_then (gc_ret (ge_ret (.tuple #[.agg #[.slice pa 0 pc],bF]) (rsct 6 7 (T:=107) (by kernel_rfl) (by kernel_rfl) (by kernel_rfl) (lr Xg4 0)) ?_))))
 exact ⟨_,_,rfl,_,A.sx,A.km,A.cc⟩
theorem cmp0 {w:World} {a a':Option Addr} {c c':Nat}:Calls Tryz.prog 103 #[.agg #[.slice a 0 c],.agg #[.slice a' 0 c']] w fun e w'=>e=.returned (.int .i64 0)/\Below w.heap.size w w':=dCmp (natA0 _ _ _) (natA0 _ _ _) (by decide) (by decide)
theorem cmp1 {w:World} {a a':Option Addr} {k c c' z:Nat} (F:Fo.Nf w z a k c (1 * U36)) (hk:k<=1099511627776):Calls Tryz.prog 103 #[.agg #[.slice a k c],.agg #[.slice a' 0 c']] w fun e w'=>e=.returned (.int .i64 1)/\Below w.heap.size w w':=dCmp F.nat (natA0 _ _ _) hk (by decide)
theorem r10a {B:Nat} {w:World} {K:Nat->Prop} {g:Nat} {E:Ents} {n N:Nat}  (P:Bare E) (h:Sx B w K g E [] n N) (hc2:coin E 2=0) (hc3:coin E 3=0) (hc4:coin E 4=0) (hn:n<=50000) (hN:N<=1000):Calls Tryz.prog 44 #[pg g] w (RlE B w K g E n N 6 (.bool true)):=by
 have A:=h.at
 have DF:=Dfs.nil w.heap.size w
 refine gc_enterM (n:=66) Tryz.func44 rfl (by kernel_rfl) (by kernel_rfl) ?_
 refine gc_seq (gc_reg (t 2 (bF) (gl_nil (ge_then (gc_seq (gc_reg (tmk 13 ?_)))))))
 intro v1 bm2 hM hbm B
 have zbm2:=Nat.le_trans A.size hbm
 replace A:=A.keep B
 replace DF:=DF.keep B
 clear B hbm
 have Q3:MapS v1 bm2 (.map #[] 0):=⟨hM⟩
 clear hM
 refine ta 3 [.map none] 154 (pg) ?_
 intro v4 g5 Xg5 hg5 B
 obtain ⟨zg5,nXg5,A⟩:=A.al hg5 B
 replace DF:=DF.keep B
 replace Q3:=Q3.keep B
 refine ts Xg5 0 (.map (some bm2)) [.map (some bm2)] [.map (some bm2)] ?_
 intro v6 Y C
 replace A:=Bk.At.cell A Xg5 C zg5 nXg5 (by decide)
 replace DF:=DF.cell Xg5 C
 replace Q3:=Q3.cell Xg5 C
 have Xg5:=Y
 refine gl_nil (ge_then (gc_seq (gc_reg (t 14 (.func (.func 95) #[] #[pg g5]) ?_))))
 have lXg5:=Xg5.lt
 refine ta 4 [.nilFunc] 158 (pg) ?_
 intro v7 g8 Xg8 hg8 B
 obtain ⟨zg8,nXg8,A⟩:=A.al hg8 B
 replace DF:=DF.keep B
 replace Q3:=Q3.keep B
 replace Xg5:=Xg5.keep B
 refine ts Xg8 0 (.func (.func 95) #[] #[pg g5]) [.func (.func 95) #[] #[pg g5]] [.func (.func 95) #[] #[pg g5]] ?_
 intro v9 Y C
 replace A:=Bk.At.cell A Xg8 C zg8 nXg8 (by decide)
 replace DF:=DF.cell Xg8 C
 replace Q3:=Q3.cell Xg8 C
 replace Xg5:=Xg5.chg C (show g5≠g8 by omega)
 have Xg8:=Y
 refine gl_nil (ge_then (gc_seq (gc_seq (gc_reg (t 15 (pg g) (tc 16 82 #[pg g] (vals_mt P A.sx (by omega) (by omega)) ?_))))))
 rintro _ v13 ⟨gf10,lb11,rfl,M12,B⟩
 refine ⟨_,rfl,?_⟩
 replace A:=A.keep B
 replace DF:=DF.keep B
 replace Q3:=Q3.keep B
 replace Xg5:=Xg5.keep B
 replace Xg8:=Xg8.keep B
 refine gl_nil (ge_then (gc_block (gc_mt M12 (A.lt A.sx.sa.top) ?_)))
 intro D14 v15 hD14 kD14 S C
 have hC:=C.mono (F':=K) (fun y _ e=>by have e':y=g:=e; rw [e']; exact A.sx.sa.top)
 have hK:∀ b,K b->K b\/v13.heap.size<=b:=fun _ h=>.inl h
 have DF2:=DF.op A.sx.sa hC
 replace DF:=DF.add hD14 A.size DF2 kD14
 clear DF2 hD14 kD14
 clear M12
 replace Q3:=Q3.op A.sx.sa hC
 obtain ⟨Xg5,nXg5⟩:=bk_op Xg5 nXg5 hK hC
 obtain ⟨Xg8,nXg8⟩:=bk_op Xg8 nXg8 hK hC
 replace A:=A.op S hK hC
 refine ge_bn (ge_then (gc_seq (gc_seq (gc_reg (t 30 (pg g) (tc 31 99 #[pg g,iI 12,.func (.func 100) #[] #[]] (recs_Unbonding A.sx (by omega) (by omega) of12 (P.no 117 (by decide))) ?_))))))
 rintro _ v19 ⟨gf16,lb17,rfl,M18,B⟩
 refine ⟨_,rfl,?_⟩
 replace A:=A.keep B
 replace Q3:=Q3.keep B
 replace Xg5:=Xg5.keep B
 replace Xg8:=Xg8.keep B
 replace DF:=DF.keep B
 refine gl_nil (ge_then (gc_block (gc_mt M18 (A.lt A.sx.sa.top) ?_)))
 intro D20 v21 hD20 kD20 S C
 have hC:=C.mono (F':=K) (fun y _ e=>by have e':y=g:=e; rw [e']; exact A.sx.sa.top)
 have hK:∀ b,K b->K b\/v19.heap.size<=b:=fun _ h=>.inl h
 have DF2:=DF.op A.sx.sa hC
 replace DF:=DF.add hD20 A.size DF2 kD20
 clear DF2 hD20 kD20
 clear M18
 replace Q3:=Q3.op A.sx.sa hC
 obtain ⟨Xg5,nXg5⟩:=bk_op Xg5 nXg5 hK hC
 obtain ⟨Xg8,nXg8⟩:=bk_op Xg8 nXg8 hK hC
 replace A:=A.op S hK hC
 refine ge_bn (ge_then (gc_seq (gc_reg (t 40 (pg g) (t 41 (.agg #[iI 3,iU 0,iU 0]) (tc 42 101 #[pg g,.agg #[iI 3,iU 0,iU 0],.func (.func 102) #[] #[]] (recPool A.sx P.pool (by omega) (by omega)) ?_))))))
 rintro _ v23 ⟨pa,pc,rfl,K22,S,hK,hC⟩
 refine ⟨_,rfl,?_⟩
 replace DF:=DF.op A.sx.sa hC
 replace Q3:=Q3.op A.sx.sa hC
 obtain ⟨Xg5,nXg5⟩:=bk_op Xg5 nXg5 hK hC
 obtain ⟨Xg8,nXg8⟩:=bk_op Xg8 nXg8 hK hC
 replace A:=A.op S hK hC
 refine t 39 (.tuple #[.agg #[.slice pa 0 pc],bF]) (t 43 (.agg #[.slice pa 0 pc]) (t 44 (bF) ?_))
 have lXg5:=Xg5.lt
 have lXg8:=Xg8.lt
 refine ta 9 [.slice none 0 0] 107 (pg) ?_
 intro v24 g25 Xg25 hg25 B
 obtain ⟨zg25,nXg25,A⟩:=A.al hg25 B
 replace Q3:=Q3.keep B
 replace Xg5:=Xg5.keep B
 replace Xg8:=Xg8.keep B
 replace DF:=DF.keep B
 refine ts Xg25 0 (.agg #[.slice pa 0 pc]) [.slice pa 0 pc] [.slice pa 0 pc] ?_
 intro v26 Y C
 replace A:=Bk.At.cell A Xg25 C zg25 nXg25 (by decide)
 replace Q3:=Q3.cell Xg25 C
 replace Xg5:=Xg5.chg C (show g5≠g25 by omega)
 replace Xg8:=Xg8.chg C (show g8≠g25 by omega)
 replace DF:=DF.cell Xg25 C
 have Xg25:=Y
 refine t 10 (bF) (gl_nil (ge_then (gc_fr [(0,pg g),(2,bF),(3,pg g5),(4,pg g8),(9,pg g25)] (gc_seq (gc_reg (tl 45 (.func (.func 95) #[] #[pg g5]) Xg8 0 (tlr 46 [.slice pa 0 pc] Xg25 0 (tc 47 95 #[iU 4,.agg #[.slice pa 0 pc],pg g5] (owe_any Xg5 Q3) ?_))))))))
 rintro _ v27 ⟨a1,d1,rfl,Q2,C⟩
 refine ⟨_,rfl,?_⟩
 replace Xg5:=blk_map Xg5 Q3 C
 replace Xg8:=blk_map Xg8 Q3 C
 replace Xg25:=blk_map Xg25 Q3 C
 replace DF:=dfs_map DF Q3 C
 replace A:=at_map A Q3 C zbm2
 clear Q3 C
 have Q3:=Q2
 clear Q2
 refine gl_nil (ge_then (gc_seq (gc_seq (gc_reg ?_))))
 have lXg5:=Xg5.lt
 have lXg8:=Xg8.lt
 have lXg25:=Xg25.lt
 refine ta 48 [iU 2,iU 3,iU 4] 22 (sg 3) ?_
 intro v28 g29 Xg29 hg29 B
 obtain ⟨zg29,nXg29,A⟩:=A.al hg29 B
 replace Q3:=Q3.keep B
 replace Xg5:=Xg5.keep B
 replace Xg8:=Xg8.keep B
 replace DF:=DF.keep B
 replace Xg25:=Xg25.keep B
 refine t 49 (iI 3) (t 50 (iI 0) (gl_nil (ge_then (gc_block (gc_rds 3 ?_)))))
 refine gc_seq (gc_reg (t 51 (bT) (gl_nil (ge_then (gc_seq (gc_yes (gc_skip (ge_then (gc_seq (gc_block (gc_seq (gc_reg (t 52 (pg g29) (tl 53 (iU 2) Xg29 0 (t 12 (iU 2) (gl_nil (ge_then (gc_seq ?_))))))))))))))))))
 replace A:=A.drew
 replace Q3:=Q3.drew
 replace Xg5:=Xg5.drew
 replace Xg8:=Xg8.drew
 replace DF:=DF.drew
 replace Xg25:=Xg25.drew
 replace Xg29:=Xg29.drew
 refine gc_draw (fun w'=>Blk w' g5 [.map (some bm2)] 154/\MapS w' bm2 (.map #[⟨iU 4,.agg #[.slice a1 0 d1],0⟩] 1)) (fun _=>false) ⟨Xg5,Q3⟩ ?_
 refine z 0 54 (pg g) (z 1 55 (iU 2) (zl 5 59 (.map (some bm2)) (fun _ h=>h.1) 0 (z 6 60 (iU 2) (zr 7 61 (.agg #[.slice none 0 0]) (fun _ h=>run_lkS 2 (.agg #[.slice none 0 0]) h.2 (by rfl) (by rfl)) (z 8 62 (.agg #[.slice none 0 0]) (zc 2 56 104 #[pg g,iU 2] (getS A.sx ⟨by decide,by decide⟩ hc2 (by omega) (by omega)) ?_))))))
 rintro _ v31 ⟨rfl,K30,S,hK,hC⟩
 replace DF:=DF.op A.sx.sa hC
 replace Q3:=Q3.op A.sx.sa hC
 obtain ⟨Xg5,nXg5⟩:=bk_op Xg5 nXg5 hK hC
 obtain ⟨Xg8,nXg8⟩:=bk_op Xg8 nXg8 hK hC
 obtain ⟨Xg25,nXg25⟩:=bk_op Xg25 nXg25 hK hC
 obtain ⟨Xg29,nXg29⟩:=bk_op Xg29 nXg29 hK hC
 replace A:=A.op S hK hC
 refine ⟨_,rfl,⟨Xg5,Q3⟩,?_⟩
 refine z 3 57 (iU 0) (zc 4 58 98 #[iU 0] (Fo.eOf (y:=0) ⟨by decide,by decide⟩) ?_)
 rintro _ v37 ⟨a32,k33,d34,z35,rfl,F36,hz,hk,B⟩
 rw [Int.zero_mul] at F36
 obtain rfl:k33=0:=nato0 F36.o
 clear F36 hz hk
 replace A:=A.keep B
 replace Q3:=Q3.keep B
 replace Xg5:=Xg5.keep B
 replace Xg8:=Xg8.keep B
 replace DF:=DF.keep B
 replace Xg25:=Xg25.keep B
 replace Xg29:=Xg29.keep B
 refine ⟨_,rfl,⟨Xg5,Q3⟩,?_⟩
 refine zc 9 63 103 #[.agg #[.slice a32 0 d34],.agg #[.slice none 0 0]] (cmp0) ?_
 rintro _ v38 ⟨rfl,B⟩
 replace A:=A.keep B
 replace Q3:=Q3.keep B
 replace Xg5:=Xg5.keep B
 replace Xg8:=Xg8.keep B
 replace DF:=DF.keep B
 replace Xg25:=Xg25.keep B
 replace Xg29:=Xg29.keep B
 refine ⟨_,rfl,⟨Xg5,Q3⟩,?_⟩
 refine z 10 64 (bF) (gz_done (ge_then (gc_fr [(0,pg g),(2,bF),(3,pg g5),(12,iU 2),(48,sg 3 g29),(49,iI 3),(50,iI 0),(51,bT),(52,pg g29),(53,iU 2),(54,pg g),(55,iU 2),(56,.agg #[iU 0,iU (seqn E 2)]),(57,iU 0),(58,.agg #[.slice a32 0 d34]),(59,.map (some bm2)),(60,iU 2),(61,.agg #[.slice none 0 0]),(62,.agg #[.slice none 0 0]),(63,iI 0),(64,bF)] (gc_no (gc_skip (ge_bn (ge_then (gc_reg (t 65 (iI 1) (t 50 (iI 1) (gl_nil (ge_rd ?_))))))))))))
 refine gc_fr [(0,pg g),(2,bF),(3,pg g5),(12,iU 2),(48,sg 3 g29),(49,iI 3),(50,iI 1),(51,bT),(52,pg g29),(53,iU 2),(54,pg g),(55,iU 2),(56,.agg #[iU 0,iU (seqn E 2)]),(57,iU 0),(58,.agg #[.slice a32 0 d34]),(59,.map (some bm2)),(60,iU 2),(61,.agg #[.slice none 0 0]),(62,.agg #[.slice none 0 0]),(63,iI 0),(64,bF),(65,iI 1)] (gc_seq (gc_reg (t 51 (bT) (gl_nil (ge_then (gc_seq (gc_yes (gc_skip (ge_then (gc_seq (gc_block (gc_seq (gc_reg (t 52 (pq g29 1) (tl 53 (iU 3) Xg29 1 (t 12 (iU 3) (gl_nil (ge_then (gc_seq ?_)))))))))))))))))))
 replace A:=A.drew
 replace Q3:=Q3.drew
 replace Xg5:=Xg5.drew
 replace Xg8:=Xg8.drew
 replace DF:=DF.drew
 replace Xg25:=Xg25.drew
 replace Xg29:=Xg29.drew
 refine gc_draw (fun w'=>Blk w' g5 [.map (some bm2)] 154/\MapS w' bm2 (.map #[⟨iU 4,.agg #[.slice a1 0 d1],0⟩] 1)) (fun _=>false) ⟨Xg5,Q3⟩ ?_
 refine z 0 54 (pg g) (z 1 55 (iU 3) (zl 5 59 (.map (some bm2)) (fun _ h=>h.1) 0 (z 6 60 (iU 3) (zr 7 61 (.agg #[.slice none 0 0]) (fun _ h=>run_lkS 3 (.agg #[.slice none 0 0]) h.2 (by rfl) (by rfl)) (z 8 62 (.agg #[.slice none 0 0]) (zc 2 56 104 #[pg g,iU 3] (getS A.sx ⟨by decide,by decide⟩ hc3 (by omega) (by omega)) ?_))))))
 rintro _ v40 ⟨rfl,K39,S,hK,hC⟩
 replace DF:=DF.op A.sx.sa hC
 replace Q3:=Q3.op A.sx.sa hC
 obtain ⟨Xg5,nXg5⟩:=bk_op Xg5 nXg5 hK hC
 obtain ⟨Xg8,nXg8⟩:=bk_op Xg8 nXg8 hK hC
 obtain ⟨Xg25,nXg25⟩:=bk_op Xg25 nXg25 hK hC
 obtain ⟨Xg29,nXg29⟩:=bk_op Xg29 nXg29 hK hC
 replace A:=A.op S hK hC
 refine ⟨_,rfl,⟨Xg5,Q3⟩,?_⟩
 refine z 3 57 (iU 0) (zc 4 58 98 #[iU 0] (Fo.eOf (y:=0) ⟨by decide,by decide⟩) ?_)
 rintro _ v46 ⟨a41,k42,d43,z44,rfl,F45,hz,hk,B⟩
 rw [Int.zero_mul] at F45
 obtain rfl:k42=0:=nato0 F45.o
 clear F45 hz hk
 replace A:=A.keep B
 replace Q3:=Q3.keep B
 replace Xg5:=Xg5.keep B
 replace Xg8:=Xg8.keep B
 replace DF:=DF.keep B
 replace Xg25:=Xg25.keep B
 replace Xg29:=Xg29.keep B
 refine ⟨_,rfl,⟨Xg5,Q3⟩,?_⟩
 refine zc 9 63 103 #[.agg #[.slice a41 0 d43],.agg #[.slice none 0 0]] (cmp0) ?_
 rintro _ v47 ⟨rfl,B⟩
 replace A:=A.keep B
 replace Q3:=Q3.keep B
 replace Xg5:=Xg5.keep B
 replace Xg8:=Xg8.keep B
 replace DF:=DF.keep B
 replace Xg25:=Xg25.keep B
 replace Xg29:=Xg29.keep B
 refine ⟨_,rfl,⟨Xg5,Q3⟩,?_⟩
 refine z 10 64 (bF) (gz_done (ge_then (gc_fr [(0,pg g),(2,bF),(3,pg g5),(12,iU 3),(48,sg 3 g29),(49,iI 3),(50,iI 1),(51,bT),(52,pq g29 1),(53,iU 3),(54,pg g),(55,iU 3),(56,.agg #[iU 0,iU (seqn E 3)]),(57,iU 0),(58,.agg #[.slice a41 0 d43]),(59,.map (some bm2)),(60,iU 3),(61,.agg #[.slice none 0 0]),(62,.agg #[.slice none 0 0]),(63,iI 0),(64,bF),(65,iI 1)] (gc_no (gc_skip (ge_bn (ge_then (gc_reg (t 65 (iI 2) (t 50 (iI 2) (gl_nil (ge_rd ?_))))))))))))
 refine gc_fr [(0,pg g),(2,bF),(3,pg g5),(12,iU 3),(48,sg 3 g29),(49,iI 3),(50,iI 2),(51,bT),(52,pq g29 1),(53,iU 3),(54,pg g),(55,iU 3),(56,.agg #[iU 0,iU (seqn E 3)]),(57,iU 0),(58,.agg #[.slice a41 0 d43]),(59,.map (some bm2)),(60,iU 3),(61,.agg #[.slice none 0 0]),(62,.agg #[.slice none 0 0]),(63,iI 0),(64,bF),(65,iI 2)] (gc_seq (gc_reg (t 51 (bT) (gl_nil (ge_then (gc_seq (gc_yes (gc_skip (ge_then (gc_seq (gc_block (gc_seq (gc_reg (t 52 (pq g29 2) (tl 53 (iU 4) Xg29 2 (t 12 (iU 4) (gl_nil (ge_then (gc_seq ?_)))))))))))))))))))
 replace A:=A.drew
 replace Q3:=Q3.drew
 replace Xg5:=Xg5.drew
 replace Xg8:=Xg8.drew
 replace DF:=DF.drew
 replace Xg25:=Xg25.drew
 replace Xg29:=Xg29.drew
 refine gc_draw (fun w'=>Blk w' g5 [.map (some bm2)] 154/\MapS w' bm2 (.map #[⟨iU 4,.agg #[.slice a1 0 d1],0⟩] 1)) (fun _=>false) ⟨Xg5,Q3⟩ ?_
 refine z 0 54 (pg g) (z 1 55 (iU 4) (zl 5 59 (.map (some bm2)) (fun _ h=>h.1) 0 (z 6 60 (iU 4) (zr 7 61 (.agg #[.slice a1 0 d1]) (fun _ h=>run_lkS 4 (.agg #[.slice a1 0 d1]) h.2 (by rfl) (by rfl)) (z 8 62 (.agg #[.slice a1 0 d1]) (zc 2 56 104 #[pg g,iU 4] (getS A.sx ⟨by decide,by decide⟩ hc4 (by omega) (by omega)) ?_))))))
 rintro _ v49 ⟨rfl,K48,S,hK,hC⟩
 replace DF:=DF.op A.sx.sa hC
 replace Q3:=Q3.op A.sx.sa hC
 obtain ⟨Xg5,nXg5⟩:=bk_op Xg5 nXg5 hK hC
 obtain ⟨Xg8,nXg8⟩:=bk_op Xg8 nXg8 hK hC
 obtain ⟨Xg25,nXg25⟩:=bk_op Xg25 nXg25 hK hC
 obtain ⟨Xg29,nXg29⟩:=bk_op Xg29 nXg29 hK hC
 replace A:=A.op S hK hC
 refine ⟨_,rfl,⟨Xg5,Q3⟩,?_⟩
 refine z 3 57 (iU 0) (zc 4 58 98 #[iU 0] (Fo.eOf (y:=0) ⟨by decide,by decide⟩) ?_)
 rintro _ v55 ⟨a50,k51,d52,z53,rfl,F54,hz,hk,B⟩
 rw [Int.zero_mul] at F54
 obtain rfl:k51=0:=nato0 F54.o
 clear F54 hz hk
 replace A:=A.keep B
 replace Q3:=Q3.keep B
 replace Xg5:=Xg5.keep B
 replace Xg8:=Xg8.keep B
 replace DF:=DF.keep B
 replace Xg25:=Xg25.keep B
 replace Xg29:=Xg29.keep B
 refine ⟨_,rfl,⟨Xg5,Q3⟩,?_⟩
 refine zc 9 63 103 #[.agg #[.slice a50 0 d52],.agg #[.slice a1 0 d1]] (cmp0) ?_
 rintro _ v56 ⟨rfl,B⟩
 replace A:=A.keep B
 replace Q3:=Q3.keep B
 replace Xg5:=Xg5.keep B
 replace Xg8:=Xg8.keep B
 replace DF:=DF.keep B
 replace Xg25:=Xg25.keep B
 replace Xg29:=Xg29.keep B
 refine ⟨_,rfl,⟨Xg5,Q3⟩,?_⟩
 refine z 10 64 (bF) (gz_done (ge_then (gc_fr [(0,pg g),(2,bF),(3,pg g5),(12,iU 4),(48,sg 3 g29),(49,iI 3),(50,iI 2),(51,bT),(52,pq g29 2),(53,iU 4),(54,pg g),(55,iU 4),(56,.agg #[iU 0,iU (seqn E 4)]),(57,iU 0),(58,.agg #[.slice a50 0 d52]),(59,.map (some bm2)),(60,iU 4),(61,.agg #[.slice a1 0 d1]),(62,.agg #[.slice a1 0 d1]),(63,iI 0),(64,bF),(65,iI 2)] (gc_no (gc_skip (ge_bn (ge_then (gc_reg (t 65 (iI 3) (t 50 (iI 3) (gl_nil (ge_rd ?_))))))))))))
 refine gc_fr [(0,pg g),(2,bF),(3,pg g5),(12,iU 4),(48,sg 3 g29),(49,iI 3),(50,iI 3),(51,bT),(52,pq g29 2),(53,iU 4),(54,pg g),(55,iU 4),(56,.agg #[iU 0,iU (seqn E 4)]),(57,iU 0),(58,.agg #[.slice a50 0 d52]),(59,.map (some bm2)),(60,iU 4),(61,.agg #[.slice a1 0 d1]),(62,.agg #[.slice a1 0 d1]),(63,iI 0),(64,bF),(65,iI 3)] (gc_seq (gc_reg (t 51 (bF) (gl_nil (ge_then (gc_seq (gc_no (gc_exit (ge_tx (ge_tx (ge_bx (ge_then (gc_seq (gc_reg (t 2 (bT) (gl_nil (ge_then (gc_ret (ge_retD (b:=w.heap.size) (v:=bT) [D20,D14] DF (rsM 2 (by kernel_rfl) (by kernel_rfl)) ?_)))))))))))))))))))
 intro Vz Rz
 exact At.rle A Rz (by omega)
theorem r10c {B:Nat} {w:World} {K:Nat->Prop} {g:Nat} {E:Ents} {n N:Nat}  (P:Bare E) (h:Sx B w K g E [] n N) (hc2:coin E 2=0) (hc3:coin E 3=0) (hc4:coin E 4=1) (hn:n<=50000) (hN:N<=1000):Calls Tryz.prog 44 #[pg g] w (RlE B w K g E n N 6 (.bool false)):=by
 have A:=h.at
 have DF:=Dfs.nil w.heap.size w
 refine gc_enterM (n:=66) Tryz.func44 rfl (by kernel_rfl) (by kernel_rfl) ?_
 refine gc_seq (gc_reg (t 2 (bF) (gl_nil (ge_then (gc_seq (gc_reg (tmk 13 ?_)))))))
 intro v1 bm2 hM hbm B
 have zbm2:=Nat.le_trans A.size hbm
 replace A:=A.keep B
 replace DF:=DF.keep B
 clear B hbm
 have Q3:MapS v1 bm2 (.map #[] 0):=⟨hM⟩
 clear hM
 refine ta 3 [.map none] 154 (pg) ?_
 intro v4 g5 Xg5 hg5 B
 obtain ⟨zg5,nXg5,A⟩:=A.al hg5 B
 replace DF:=DF.keep B
 replace Q3:=Q3.keep B
 refine ts Xg5 0 (.map (some bm2)) [.map (some bm2)] [.map (some bm2)] ?_
 intro v6 Y C
 replace A:=Bk.At.cell A Xg5 C zg5 nXg5 (by decide)
 replace DF:=DF.cell Xg5 C
 replace Q3:=Q3.cell Xg5 C
 have Xg5:=Y
 refine gl_nil (ge_then (gc_seq (gc_reg (t 14 (.func (.func 95) #[] #[pg g5]) ?_))))
 have lXg5:=Xg5.lt
 refine ta 4 [.nilFunc] 158 (pg) ?_
 intro v7 g8 Xg8 hg8 B
 obtain ⟨zg8,nXg8,A⟩:=A.al hg8 B
 replace DF:=DF.keep B
 replace Q3:=Q3.keep B
 replace Xg5:=Xg5.keep B
 refine ts Xg8 0 (.func (.func 95) #[] #[pg g5]) [.func (.func 95) #[] #[pg g5]] [.func (.func 95) #[] #[pg g5]] ?_
 intro v9 Y C
 replace A:=Bk.At.cell A Xg8 C zg8 nXg8 (by decide)
 replace DF:=DF.cell Xg8 C
 replace Q3:=Q3.cell Xg8 C
 replace Xg5:=Xg5.chg C (show g5≠g8 by omega)
 have Xg8:=Y
 refine gl_nil (ge_then (gc_seq (gc_seq (gc_reg (t 15 (pg g) (tc 16 82 #[pg g] (vals_mt P A.sx (by omega) (by omega)) ?_))))))
 rintro _ v13 ⟨gf10,lb11,rfl,M12,B⟩
 refine ⟨_,rfl,?_⟩
 replace A:=A.keep B
 replace DF:=DF.keep B
 replace Q3:=Q3.keep B
 replace Xg5:=Xg5.keep B
 replace Xg8:=Xg8.keep B
 refine gl_nil (ge_then (gc_block (gc_mt M12 (A.lt A.sx.sa.top) ?_)))
 intro D14 v15 hD14 kD14 S C
 have hC:=C.mono (F':=K) (fun y _ e=>by have e':y=g:=e; rw [e']; exact A.sx.sa.top)
 have hK:∀ b,K b->K b\/v13.heap.size<=b:=fun _ h=>.inl h
 have DF2:=DF.op A.sx.sa hC
 replace DF:=DF.add hD14 A.size DF2 kD14
 clear DF2 hD14 kD14
 clear M12
 replace Q3:=Q3.op A.sx.sa hC
 obtain ⟨Xg5,nXg5⟩:=bk_op Xg5 nXg5 hK hC
 obtain ⟨Xg8,nXg8⟩:=bk_op Xg8 nXg8 hK hC
 replace A:=A.op S hK hC
 refine ge_bn (ge_then (gc_seq (gc_seq (gc_reg (t 30 (pg g) (tc 31 99 #[pg g,iI 12,.func (.func 100) #[] #[]] (recs_Unbonding A.sx (by omega) (by omega) of12 (P.no 117 (by decide))) ?_))))))
 rintro _ v19 ⟨gf16,lb17,rfl,M18,B⟩
 refine ⟨_,rfl,?_⟩
 replace A:=A.keep B
 replace Q3:=Q3.keep B
 replace Xg5:=Xg5.keep B
 replace Xg8:=Xg8.keep B
 replace DF:=DF.keep B
 refine gl_nil (ge_then (gc_block (gc_mt M18 (A.lt A.sx.sa.top) ?_)))
 intro D20 v21 hD20 kD20 S C
 have hC:=C.mono (F':=K) (fun y _ e=>by have e':y=g:=e; rw [e']; exact A.sx.sa.top)
 have hK:∀ b,K b->K b\/v19.heap.size<=b:=fun _ h=>.inl h
 have DF2:=DF.op A.sx.sa hC
 replace DF:=DF.add hD20 A.size DF2 kD20
 clear DF2 hD20 kD20
 clear M18
 replace Q3:=Q3.op A.sx.sa hC
 obtain ⟨Xg5,nXg5⟩:=bk_op Xg5 nXg5 hK hC
 obtain ⟨Xg8,nXg8⟩:=bk_op Xg8 nXg8 hK hC
 replace A:=A.op S hK hC
 refine ge_bn (ge_then (gc_seq (gc_reg (t 40 (pg g) (t 41 (.agg #[iI 3,iU 0,iU 0]) (tc 42 101 #[pg g,.agg #[iI 3,iU 0,iU 0],.func (.func 102) #[] #[]] (recPool A.sx P.pool (by omega) (by omega)) ?_))))))
 rintro _ v23 ⟨pa,pc,rfl,K22,S,hK,hC⟩
 refine ⟨_,rfl,?_⟩
 replace DF:=DF.op A.sx.sa hC
 replace Q3:=Q3.op A.sx.sa hC
 obtain ⟨Xg5,nXg5⟩:=bk_op Xg5 nXg5 hK hC
 obtain ⟨Xg8,nXg8⟩:=bk_op Xg8 nXg8 hK hC
 replace A:=A.op S hK hC
 refine t 39 (.tuple #[.agg #[.slice pa 0 pc],bF]) (t 43 (.agg #[.slice pa 0 pc]) (t 44 (bF) ?_))
 have lXg5:=Xg5.lt
 have lXg8:=Xg8.lt
 refine ta 9 [.slice none 0 0] 107 (pg) ?_
 intro v24 g25 Xg25 hg25 B
 obtain ⟨zg25,nXg25,A⟩:=A.al hg25 B
 replace Q3:=Q3.keep B
 replace Xg5:=Xg5.keep B
 replace Xg8:=Xg8.keep B
 replace DF:=DF.keep B
 refine ts Xg25 0 (.agg #[.slice pa 0 pc]) [.slice pa 0 pc] [.slice pa 0 pc] ?_
 intro v26 Y C
 replace A:=Bk.At.cell A Xg25 C zg25 nXg25 (by decide)
 replace Q3:=Q3.cell Xg25 C
 replace Xg5:=Xg5.chg C (show g5≠g25 by omega)
 replace Xg8:=Xg8.chg C (show g8≠g25 by omega)
 replace DF:=DF.cell Xg25 C
 have Xg25:=Y
 refine t 10 (bF) (gl_nil (ge_then (gc_fr [(0,pg g),(2,bF),(3,pg g5),(4,pg g8),(9,pg g25)] (gc_seq (gc_reg (tl 45 (.func (.func 95) #[] #[pg g5]) Xg8 0 (tlr 46 [.slice pa 0 pc] Xg25 0 (tc 47 95 #[iU 4,.agg #[.slice pa 0 pc],pg g5] (owe_any Xg5 Q3) ?_))))))))
 rintro _ v27 ⟨a1,d1,rfl,Q2,C⟩
 refine ⟨_,rfl,?_⟩
 replace Xg5:=blk_map Xg5 Q3 C
 replace Xg8:=blk_map Xg8 Q3 C
 replace Xg25:=blk_map Xg25 Q3 C
 replace DF:=dfs_map DF Q3 C
 replace A:=at_map A Q3 C zbm2
 clear Q3 C
 have Q3:=Q2
 clear Q2
 refine gl_nil (ge_then (gc_seq (gc_seq (gc_reg ?_))))
 have lXg5:=Xg5.lt
 have lXg8:=Xg8.lt
 have lXg25:=Xg25.lt
 refine ta 48 [iU 2,iU 3,iU 4] 22 (sg 3) ?_
 intro v28 g29 Xg29 hg29 B
 obtain ⟨zg29,nXg29,A⟩:=A.al hg29 B
 replace Q3:=Q3.keep B
 replace Xg5:=Xg5.keep B
 replace Xg8:=Xg8.keep B
 replace DF:=DF.keep B
 replace Xg25:=Xg25.keep B
 refine t 49 (iI 3) (t 50 (iI 0) (gl_nil (ge_then (gc_block (gc_rds 3 ?_)))))
 refine gc_seq (gc_reg (t 51 (bT) (gl_nil (ge_then (gc_seq (gc_yes (gc_skip (ge_then (gc_seq (gc_block (gc_seq (gc_reg (t 52 (pg g29) (tl 53 (iU 2) Xg29 0 (t 12 (iU 2) (gl_nil (ge_then (gc_seq ?_))))))))))))))))))
 replace A:=A.drew
 replace Q3:=Q3.drew
 replace Xg5:=Xg5.drew
 replace Xg8:=Xg8.drew
 replace DF:=DF.drew
 replace Xg25:=Xg25.drew
 replace Xg29:=Xg29.drew
 refine gc_draw (fun w'=>Blk w' g5 [.map (some bm2)] 154/\MapS w' bm2 (.map #[⟨iU 4,.agg #[.slice a1 0 d1],0⟩] 1)) (fun _=>false) ⟨Xg5,Q3⟩ ?_
 refine z 0 54 (pg g) (z 1 55 (iU 2) (zl 5 59 (.map (some bm2)) (fun _ h=>h.1) 0 (z 6 60 (iU 2) (zr 7 61 (.agg #[.slice none 0 0]) (fun _ h=>run_lkS 2 (.agg #[.slice none 0 0]) h.2 (by rfl) (by rfl)) (z 8 62 (.agg #[.slice none 0 0]) (zc 2 56 104 #[pg g,iU 2] (getS A.sx ⟨by decide,by decide⟩ hc2 (by omega) (by omega)) ?_))))))
 rintro _ v31 ⟨rfl,K30,S,hK,hC⟩
 replace DF:=DF.op A.sx.sa hC
 replace Q3:=Q3.op A.sx.sa hC
 obtain ⟨Xg5,nXg5⟩:=bk_op Xg5 nXg5 hK hC
 obtain ⟨Xg8,nXg8⟩:=bk_op Xg8 nXg8 hK hC
 obtain ⟨Xg25,nXg25⟩:=bk_op Xg25 nXg25 hK hC
 obtain ⟨Xg29,nXg29⟩:=bk_op Xg29 nXg29 hK hC
 replace A:=A.op S hK hC
 refine ⟨_,rfl,⟨Xg5,Q3⟩,?_⟩
 refine z 3 57 (iU 0) (zc 4 58 98 #[iU 0] (Fo.eOf (y:=0) ⟨by decide,by decide⟩) ?_)
 rintro _ v37 ⟨a32,k33,d34,z35,rfl,F36,hz,hk,B⟩
 rw [Int.zero_mul] at F36
 obtain rfl:k33=0:=nato0 F36.o
 clear F36 hz hk
 replace A:=A.keep B
 replace Q3:=Q3.keep B
 replace Xg5:=Xg5.keep B
 replace Xg8:=Xg8.keep B
 replace DF:=DF.keep B
 replace Xg25:=Xg25.keep B
 replace Xg29:=Xg29.keep B
 refine ⟨_,rfl,⟨Xg5,Q3⟩,?_⟩
 refine zc 9 63 103 #[.agg #[.slice a32 0 d34],.agg #[.slice none 0 0]] (cmp0) ?_
 rintro _ v38 ⟨rfl,B⟩
 replace A:=A.keep B
 replace Q3:=Q3.keep B
 replace Xg5:=Xg5.keep B
 replace Xg8:=Xg8.keep B
 replace DF:=DF.keep B
 replace Xg25:=Xg25.keep B
 replace Xg29:=Xg29.keep B
 refine ⟨_,rfl,⟨Xg5,Q3⟩,?_⟩
 refine z 10 64 (bF) (gz_done (ge_then (gc_fr [(0,pg g),(2,bF),(3,pg g5),(12,iU 2),(48,sg 3 g29),(49,iI 3),(50,iI 0),(51,bT),(52,pg g29),(53,iU 2),(54,pg g),(55,iU 2),(56,.agg #[iU 0,iU (seqn E 2)]),(57,iU 0),(58,.agg #[.slice a32 0 d34]),(59,.map (some bm2)),(60,iU 2),(61,.agg #[.slice none 0 0]),(62,.agg #[.slice none 0 0]),(63,iI 0),(64,bF)] (gc_no (gc_skip (ge_bn (ge_then (gc_reg (t 65 (iI 1) (t 50 (iI 1) (gl_nil (ge_rd ?_))))))))))))
 refine gc_fr [(0,pg g),(2,bF),(3,pg g5),(12,iU 2),(48,sg 3 g29),(49,iI 3),(50,iI 1),(51,bT),(52,pg g29),(53,iU 2),(54,pg g),(55,iU 2),(56,.agg #[iU 0,iU (seqn E 2)]),(57,iU 0),(58,.agg #[.slice a32 0 d34]),(59,.map (some bm2)),(60,iU 2),(61,.agg #[.slice none 0 0]),(62,.agg #[.slice none 0 0]),(63,iI 0),(64,bF),(65,iI 1)] (gc_seq (gc_reg (t 51 (bT) (gl_nil (ge_then (gc_seq (gc_yes (gc_skip (ge_then (gc_seq (gc_block (gc_seq (gc_reg (t 52 (pq g29 1) (tl 53 (iU 3) Xg29 1 (t 12 (iU 3) (gl_nil (ge_then (gc_seq ?_)))))))))))))))))))
 replace A:=A.drew
 replace Q3:=Q3.drew
 replace Xg5:=Xg5.drew
 replace Xg8:=Xg8.drew
 replace DF:=DF.drew
 replace Xg25:=Xg25.drew
 replace Xg29:=Xg29.drew
 refine gc_draw (fun w'=>Blk w' g5 [.map (some bm2)] 154/\MapS w' bm2 (.map #[⟨iU 4,.agg #[.slice a1 0 d1],0⟩] 1)) (fun _=>false) ⟨Xg5,Q3⟩ ?_
 refine z 0 54 (pg g) (z 1 55 (iU 3) (zl 5 59 (.map (some bm2)) (fun _ h=>h.1) 0 (z 6 60 (iU 3) (zr 7 61 (.agg #[.slice none 0 0]) (fun _ h=>run_lkS 3 (.agg #[.slice none 0 0]) h.2 (by rfl) (by rfl)) (z 8 62 (.agg #[.slice none 0 0]) (zc 2 56 104 #[pg g,iU 3] (getS A.sx ⟨by decide,by decide⟩ hc3 (by omega) (by omega)) ?_))))))
 rintro _ v40 ⟨rfl,K39,S,hK,hC⟩
 replace DF:=DF.op A.sx.sa hC
 replace Q3:=Q3.op A.sx.sa hC
 obtain ⟨Xg5,nXg5⟩:=bk_op Xg5 nXg5 hK hC
 obtain ⟨Xg8,nXg8⟩:=bk_op Xg8 nXg8 hK hC
 obtain ⟨Xg25,nXg25⟩:=bk_op Xg25 nXg25 hK hC
 obtain ⟨Xg29,nXg29⟩:=bk_op Xg29 nXg29 hK hC
 replace A:=A.op S hK hC
 refine ⟨_,rfl,⟨Xg5,Q3⟩,?_⟩
 refine z 3 57 (iU 0) (zc 4 58 98 #[iU 0] (Fo.eOf (y:=0) ⟨by decide,by decide⟩) ?_)
 rintro _ v46 ⟨a41,k42,d43,z44,rfl,F45,hz,hk,B⟩
 rw [Int.zero_mul] at F45
 obtain rfl:k42=0:=nato0 F45.o
 clear F45 hz hk
 replace A:=A.keep B
 replace Q3:=Q3.keep B
 replace Xg5:=Xg5.keep B
 replace Xg8:=Xg8.keep B
 replace DF:=DF.keep B
 replace Xg25:=Xg25.keep B
 replace Xg29:=Xg29.keep B
 refine ⟨_,rfl,⟨Xg5,Q3⟩,?_⟩
 refine zc 9 63 103 #[.agg #[.slice a41 0 d43],.agg #[.slice none 0 0]] (cmp0) ?_
 rintro _ v47 ⟨rfl,B⟩
 replace A:=A.keep B
 replace Q3:=Q3.keep B
 replace Xg5:=Xg5.keep B
 replace Xg8:=Xg8.keep B
 replace DF:=DF.keep B
 replace Xg25:=Xg25.keep B
 replace Xg29:=Xg29.keep B
 refine ⟨_,rfl,⟨Xg5,Q3⟩,?_⟩
 refine z 10 64 (bF) (gz_done (ge_then (gc_fr [(0,pg g),(2,bF),(3,pg g5),(12,iU 3),(48,sg 3 g29),(49,iI 3),(50,iI 1),(51,bT),(52,pq g29 1),(53,iU 3),(54,pg g),(55,iU 3),(56,.agg #[iU 0,iU (seqn E 3)]),(57,iU 0),(58,.agg #[.slice a41 0 d43]),(59,.map (some bm2)),(60,iU 3),(61,.agg #[.slice none 0 0]),(62,.agg #[.slice none 0 0]),(63,iI 0),(64,bF),(65,iI 1)] (gc_no (gc_skip (ge_bn (ge_then (gc_reg (t 65 (iI 2) (t 50 (iI 2) (gl_nil (ge_rd ?_))))))))))))
 refine gc_fr [(0,pg g),(2,bF),(3,pg g5),(12,iU 3),(48,sg 3 g29),(49,iI 3),(50,iI 2),(51,bT),(52,pq g29 1),(53,iU 3),(54,pg g),(55,iU 3),(56,.agg #[iU 0,iU (seqn E 3)]),(57,iU 0),(58,.agg #[.slice a41 0 d43]),(59,.map (some bm2)),(60,iU 3),(61,.agg #[.slice none 0 0]),(62,.agg #[.slice none 0 0]),(63,iI 0),(64,bF),(65,iI 2)] (gc_seq (gc_reg (t 51 (bT) (gl_nil (ge_then (gc_seq (gc_yes (gc_skip (ge_then (gc_seq (gc_block (gc_seq (gc_reg (t 52 (pq g29 2) (tl 53 (iU 4) Xg29 2 (t 12 (iU 4) (gl_nil (ge_then (gc_seq ?_)))))))))))))))))))
 replace A:=A.drew
 replace Q3:=Q3.drew
 replace Xg5:=Xg5.drew
 replace Xg8:=Xg8.drew
 replace DF:=DF.drew
 replace Xg25:=Xg25.drew
 replace Xg29:=Xg29.drew
 refine gc_draw (fun w'=>Blk w' g5 [.map (some bm2)] 154/\MapS w' bm2 (.map #[⟨iU 4,.agg #[.slice a1 0 d1],0⟩] 1)) (fun _=>false) ⟨Xg5,Q3⟩ ?_
 refine z 0 54 (pg g) (z 1 55 (iU 4) (zl 5 59 (.map (some bm2)) (fun _ h=>h.1) 0 (z 6 60 (iU 4) (zr 7 61 (.agg #[.slice a1 0 d1]) (fun _ h=>run_lkS 4 (.agg #[.slice a1 0 d1]) h.2 (by rfl) (by rfl)) (z 8 62 (.agg #[.slice a1 0 d1]) (zc 2 56 104 #[pg g,iU 4] (getS A.sx ⟨by decide,by decide⟩ hc4 (by omega) (by omega)) ?_))))))
 rintro _ v49 ⟨rfl,K48,S,hK,hC⟩
 replace DF:=DF.op A.sx.sa hC
 replace Q3:=Q3.op A.sx.sa hC
 obtain ⟨Xg5,nXg5⟩:=bk_op Xg5 nXg5 hK hC
 obtain ⟨Xg8,nXg8⟩:=bk_op Xg8 nXg8 hK hC
 obtain ⟨Xg25,nXg25⟩:=bk_op Xg25 nXg25 hK hC
 obtain ⟨Xg29,nXg29⟩:=bk_op Xg29 nXg29 hK hC
 replace A:=A.op S hK hC
 refine ⟨_,rfl,⟨Xg5,Q3⟩,?_⟩
 refine z 3 57 (iU 1) (zc 4 58 98 #[iU 1] (Fo.eOf (y:=1) ⟨by decide,by decide⟩) ?_)
 rintro _ v55 ⟨a50,k51,d52,z53,rfl,F54,hz,hk,B⟩
 clear hz
 replace A:=A.keep B
 replace Q3:=Q3.keep B
 replace Xg5:=Xg5.keep B
 replace Xg8:=Xg8.keep B
 replace DF:=DF.keep B
 replace Xg25:=Xg25.keep B
 replace Xg29:=Xg29.keep B
 refine ⟨_,rfl,⟨Xg5,Q3⟩,?_⟩
 refine zc 9 63 103 #[.agg #[.slice a50 k51 d52],.agg #[.slice a1 0 d1]] (cmp1 F54 (Nat.le_trans hk (by decide))) ?_
 rintro _ v56 ⟨rfl,B⟩
 replace A:=A.keep B
 replace Q3:=Q3.keep B
 replace Xg5:=Xg5.keep B
 replace Xg8:=Xg8.keep B
 replace DF:=DF.keep B
 replace Xg25:=Xg25.keep B
 replace Xg29:=Xg29.keep B
 replace F54:=F54.keep B
 refine ⟨_,rfl,⟨Xg5,Q3⟩,?_⟩
 refine z 10 64 (bT) (gz_done (ge_then (gc_fr [(0,pg g),(2,bF),(3,pg g5),(12,iU 4),(48,sg 3 g29),(49,iI 3),(50,iI 2),(51,bT),(52,pq g29 2),(53,iU 4),(54,pg g),(55,iU 4),(56,.agg #[iU 1,iU (seqn E 4)]),(57,iU 1),(58,.agg #[.slice a50 k51 d52]),(59,.map (some bm2)),(60,iU 4),(61,.agg #[.slice a1 0 d1]),(62,.agg #[.slice a1 0 d1]),(63,iI 1),(64,bT),(65,iI 2)] (gc_yes (gc_seq (gc_reg (t 2 (bF) (gl_nil (ge_then (gc_ret (ge_br (ge_tr (ge_tr (ge_br (ge_tr (ge_retD (b:=w.heap.size) (v:=bF) [D20,D14] DF (rsM 2 (by kernel_rfl) (by kernel_rfl)) ?_))))))))))))))))
 intro Vz Rz
 exact At.rle A Rz (by omega)
end Sd
end Go.Proofs.YtopifdikfhffgaaGreat
