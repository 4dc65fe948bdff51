/- Several texts, joined: SdG. -/
import Derived.Test.YtopifdikfhffgaaGreatJar
import Derived.Test.YtopifdikfhffgaaGreatJau
set_option maxRecDepth 100000
set_option maxHeartbeats 8000000
namespace Go.Proofs.YtopifdikfhffgaaGreat
namespace Sd
open Go.RowKit Go.Lib Pg Lim Gl Kv Bk Pw
attribute [local go_sem] Oper.semAt_some
set_option linter.unusedSimpArgs false
set_option linter.unusedVariables false
theorem mod4 {w:World}:Calls Tryz.prog 77 #[.int .u64 4] w fun e w'=>e=.returned (.bool true)/\Below w.heap.size w w':=by
 have BB:=Below.refl w.heap.size w
 refine gc_enter (n:=9) Tryz.func77 rfl ?_
 refine gc_seq (gc_reg (t 2 (bF) (gl_nil (ge_then (gc_seq (gc_reg (t 3 (iU 4) (t 4 (bT) (t 5 (bT) (t 6 (iU 4) (t 7 (bT) (t 8 (bT) (t 2 (bT) (gl_nil (ge_then (gc_ret (ge_ret (bT) (rs1 2 (by kernel_rfl) (by kernel_rfl)) ?_)))))))))))))))))
 exact ⟨rfl,BB⟩
theorem sg0 {w:World} {a a':Option Addr} {n n' c c':Nat} {x:Int} (h:NatA w a n c x) (h':NatA w a' n' c' 1000000000000000000) (hn:n<=1099511627776) (hn':n'<=1099511627776) (hx:x < 1000000000000000000):Calls Tryz.prog 78 #[.slice a n c,.slice a' n' c'] w fun e w'=>e=.returned (.int .i64 (-1))/\Below w.heap.size w w':=by
 have u:=nCmp h h' hn hn'
 rw [show sgn x 1000000000000000000 = -1 by unfold sgn; rw [if_pos hx]] at u
 exact u
structure One (E:Ents) (c:Int):Prop where
 one:E.filter (fun x=>decide (([97]:List Int) <+: x.1))=[(ak 4,pv c 0)]
theorem ak4:Ky.rdA 4 (ak 4)=4/\Ky.rdB (ak 4)=0/\Ky.frm (4:Nat)=Ky.fIn (ak 4):=by decide +kernel
theorem One.el {E:Ents} {c:Int} {EL:List En} {i:Nat} {e:En} (h:One E c) (hc:0<=c/\c < 18446744073709551616) (hEL:EL.map En.kl2=E.filter (fun x=>decide (([97]:List Int) <+: x.1))) (he:EL[i]? = some e):i=0/\Ky.rdA 4 e.kl=4/\Ky.rdB e.kl=0/\coinB e.vl=c/\seqB e.vl=0:=by
 rw [h.1] at hEL
 have h1:(EL.map En.kl2)[i]? = some e.kl2:=by rw [List.getElem?_map,he]; rfl
 rw [hEL] at h1
 match i,h1 with
 | 0,h1 =>
  have e2:(ak 4,pv c 0)=(e.kl,e.vl):=by simpa [En.kl2] using h1
  have ek:e.kl=ak 4:=(congrArg Prod.fst e2).symm
  have ev:e.vl=pv c 0:=(congrArg Prod.snd e2).symm
  rw [ek,ev]
  exact ⟨rfl,ak4.1,ak4.2.1,(pv_back hc (by decide)).1,(pv_back hc (by decide)).2⟩
 | k + 1,h1=>simp at h1
theorem chgSet (x:Nat) (v:Value) (w:World):Chg (· = x) w (w.setCell ⟨x,0,none⟩ v):=(Chg.refl (· = x) w).cell (.inl rfl) _
theorem sx_cell {B:Nat} {w w':World} {K:Nat->Prop} {g:Nat} {E:Ents} {W:List Ents} {n N x:Nat} {cs:List Value} {t:TypeId} (h:Sx B w K g E W n N) (X:Blk w x cs t) (C:Chg (· = x) w w') (hk:¬ K x) (ht:t≠5):Sx B w' K g E W n N:=by
 refine ⟨h.sa.chg C (fun b e hb=>hk ((show b=x from e)▸hb)) (fun b e cs' k => ?_),Nat.le_trans h.lo C.size,h.kb⟩
 have e':b=x:=e
 subst e'
 exact ht (X.eq k).2
theorem r3a {B:Nat} {w:World} {K:Nat->Prop} {g:Nat} {E:Ents} {n N:Nat} {s:Int} (P:Bare E) (h:Sx B w K g E [] n N) (h0:E.filter (fun x=>decide (([97]:List Int) <+: x.1))=[]) (hs:(accs E).sum=s) (hl:(accs E).length<=1) (hx:s < 1000000000000000000) (hn:n<=50000) (hN:N<=1000):Calls Tryz.prog 37 #[pg g] w (RlE B w K g E n N 5 (.bool true)):=by
 have A:=h.at
 have DF:=Dfs.nil w.heap.size w
 refine gc_enterM (n:=29) Tryz.func37 rfl (by kernel_rfl) (by kernel_rfl) ?_
 refine gc_seq (gc_reg (ta 2 [bF] 4 (pg) ?_))
 intro v1 g2 Xg2 hg2 B
 obtain ⟨zg2,nXg2,A⟩:=A.al hg2 B
 replace DF:=DF.keep B
 refine gl_nil (ge_then (gc_seq (gc_seq (gc_reg (t 5 (pg g) (tc 6 75 #[pg g,iI 4,.func (.func 76) #[] #[]] (recs_Account A.sx (by omega) (by omega) of4 h0) ?_))))))
 rintro _ v6 ⟨gf3,lb4,rfl,M5,B⟩
 refine ⟨_,rfl,?_⟩
 replace A:=A.keep B
 replace DF:=DF.keep B
 replace Xg2:=Xg2.keep B
 refine gl_nil (ge_then (gc_block (gc_mt M5 (A.lt A.sx.sa.top) ?_)))
 intro D7 v8 hD7 kD7 S C
 have hC:=C.mono (F':=K) (fun y _ e=>by have e':y=g:=e; rw [e']; exact A.sx.sa.top)
 have hK:∀ b,K b->K b\/v6.heap.size<=b:=fun _ h=>.inl h
 have DF2:=DF.op A.sx.sa hC
 replace DF:=DF.add hD7 A.size DF2 kD7
 clear DF2 hD7 kD7
 clear M5
 obtain ⟨Xg2,nXg2⟩:=bk_op Xg2 nXg2 hK hC
 replace A:=A.op S hK hC
 refine ge_bn (ge_then (gc_seq (gc_reg (t 24 (pg g) (tc 25 79 #[pg g] (sum_any A.sx (by omega) (by omega)) ?_)))))
 rintro _ v9 ⟨sa,sk,sd,rfl,Ns,hk,S,C⟩
 refine ⟨_,rfl,?_⟩
 have hC:=C.mono (F':=K) (fun y _ e=>by have e':y=g:=e; rw [e']; exact A.sx.sa.top)
 have hK:∀ b,K b->K b\/v8.heap.size<=b:=fun _ h=>.inl h
 replace DF:=DF.op A.sx.sa hC
 obtain ⟨Xg2,nXg2⟩:=bk_op Xg2 nXg2 hK hC
 replace A:=A.op S hK hC
 rw [hs] at Ns
 refine tc 26 80 #[iU 1000000000000000000] (wOf (by decide) (by decide)) ?_
 rintro _ v10 ⟨oa,ok,od,rfl,No,hko,B⟩
 refine ⟨_,rfl,?_⟩
 replace A:=A.keep B
 replace Xg2:=Xg2.keep B
 replace DF:=DF.keep B
 replace Ns:=Ns.keep B
 refine tc 27 78 #[.slice sa sk sd,.slice oa ok od] (sg0 Ns.o.a No.o.a (by omega) (by omega) hx) ?_
 rintro _ v11 ⟨rfl,B⟩
 refine ⟨_,rfl,?_⟩
 replace A:=A.keep B
 replace Xg2:=Xg2.keep B
 replace DF:=DF.keep B
 replace Ns:=Ns.keep B
 replace No:=No.keep B
 clear Ns
 clear No
 refine t 28 (bT) (ts Xg2 0 (bT) [bT] [bT] ?_)
 intro v12 Y C
 replace A:=Bk.At.cell A Xg2 C zg2 nXg2 (by decide)
 replace DF:=DF.cell Xg2 C
 have Xg2:=Y
 refine gl_nil (ge_then (gc_ret (ge_retD (b:=w.heap.size) (v:=bT) [D7] DF (rscM 2 Xg2 (fun _ h=>l1 h 0) (by kernel_rfl) (by kernel_rfl)) ?_)))
 intro Vz Rz
 exact At.rle A Rz (by omega)
theorem r3c {B:Nat} {w:World} {K:Nat->Prop} {g:Nat} {E:Ents} {n N:Nat} {s:Int} (P:Bare E) (h:Sx B w K g E [] n N) (O:One E 1) (hs:(accs E).sum=s) (hl:(accs E).length<=1) (hx:s < 1000000000000000000) (hn:n<=50000) (hN:N<=1000):Calls Tryz.prog 37 #[pg g] w (RlE B w K g E n N 5 (.bool true)):=by
 have A:=h.at
 have DF:=Dfs.nil w.heap.size w
 refine gc_enterM (n:=29) Tryz.func37 rfl (by kernel_rfl) (by kernel_rfl) ?_
 have hc:(0:Int)<=1/\(1:Int) < 18446744073709551616:=by decide
 refine gc_seq (gc_reg (ta 2 [bF] 4 (pg) ?_))
 intro v1 g2 Xg2 hg2 B
 obtain ⟨zg2,nXg2,A⟩:=A.al hg2 B
 replace DF:=DF.keep B
 refine gl_nil (ge_then (gc_seq (gc_seq (gc_reg (t 5 (pg g) (tc 6 75 #[pg g,iI 4,.func (.func 76) #[] #[]] (recs4 A.sx (by omega) (by omega) (by rw [O.one]; intro x hx; rw [List.mem_singleton.1 hx]; exact ak4.2.2)) ?_))))))
 rintro _ v3 ⟨bp,br,EL,Rd1,rfl,IT,RA,hEL,B⟩
 refine ⟨_,rfl,?_⟩
 replace A:=A.keep B
 replace DF:=DF.keep B
 replace Xg2:=Xg2.keep B
 refine gl_nil (ge_then (gc_block (gc_fr [(0,pg g),(2,pg g2),(6,.func (.func 231) #[] #[pg bp,pg br])] ?_)))
 have gl:=A.lt A.sx.sa.top
 have n2:g2≠g:=fun e=>nXg2 (by rw [e]; exact A.sx.sa.top)
 have HX:=hid3 Xg2
 have HS:=hid3 A
 have HEL:=hid3 hEL
 have hE1:EL.length=1:=by have h1:=congrArg List.length hEL; rw [O.one] at h1; simpa using h1
 refine gc_it IT (enters_of Tryz.func231 (by kernel_rfl) rfl) (fun i args n V W h _=>h) (fun i args n V h=>by obtain ⟨e,_,rfl⟩:=h; rfl) A.sx RA (fun i=>True) (fun _=>False) (fun _ _ h _=>h) trivial ?_ ?_ ?_
 ·intro a r
  obtain ⟨xx,hxx⟩:=fr_op r
  rw [hxx.trans (show _=#[pg g,xx 1,pg g2,xx 3,xx 4,xx 5,.func (.func 231) #[] #[pg bp,pg br],xx 7,xx 8,xx 9,xx 10,xx 11,xx 12,xx 13,xx 14,xx 15,xx 16,xx 17,xx 18,xx 19,xx 20,xx 21,xx 22,xx 23,xx 24,xx 25,xx 26,xx 27,xx 28] from rfl)]
  clear r hxx Xg2 A DF IT RA hEL
  rintro l2 i args V Wv hl hlV hrec hiN ⟨hj,hS,hC⟩ hb ⟨e0,he0,rfl⟩
  obtain ⟨rfl,q1,q2,q3,q4⟩:=O.el hc HEL.out he0
  rw [q1,q2,q3,q4]
  have hVW:=hb.size
  have zC:=hC.size
  have nK:=hid3 (blk_new Wv [iI 4,iU 4,iU 0] 35)
  have b1:=hid3 (below_alloc Wv (.cells #[iI 4,iU 4,iU 0] 35))
  have nA:=hid3 (blk_new (Wv.alloc (.cells #[iI 4,iU 4,iU 0] 35)) [iU 1,iU 0] 39)
  have b2:=hid3 (below_alloc (Wv.alloc (.cells #[iI 4,iU 4,iU 0] 35)) (.cells #[iU 1,iU 0] 39))
  have z1:(Wv.alloc (.cells #[iI 4,iU 4,iU 0] 35)).heap.size=Wv.heap.size + 1:=by simp
  rw [z1] at nA
  simp
  gi_wp2
  refine ⟨joinB b1.out b2.out,?_⟩
  intro V2 W2 hS2 hC2 hb2 hAr2 hoth hsz3 hV2 rl hrec2
  have k1:Blk W2 Wv.heap.size [iI 4,iU 4,iU 0] 35:=⟨by rw [hoth _ (by omega)]; exact (nK.out.keep b2.out).blk⟩
  have k2:Blk W2 (Wv.heap.size + 1) [iU 1,iU 0] 39:=⟨by rw [hoth _ (by omega)]; exact nA.out.blk⟩
  have HK1:=hid3 k1
  have HK2:=hid3 k2
  have HC2:=hid3 hC2
  have HS2:=hid3 hS2
  have HB2:=hid3 hb2
  have a4:=k1.cell (i:=1) rfl
  have x2:=(HX.out.chg hC2 n2).keep hb2
  have HX2:=hid3 x2
  clear hS hC hb hS2 hC2 hb2 hAr2 hoth hsz3 k1 k2 nK nA b1 b2 x2
  gi_wp2_with first
   | (refine ⟨trivial,rfl,?_⟩; gi_at_call 77; refine (CallsIn.inRound l2 (callsIn_wide.2 mod4)).mono ?_; rintro e' w3 ⟨rfl,B3⟩; clear a4; have c0:=(HK2.out.keep B3).cell (i:=0) rfl; have c1:=(HK2.out.keep B3).cell (i:=1) rfl; have f0:=(HX2.out.keep B3).cell (i:=0) rfl; have f1:=(HX2.out.keep B3).free 0)
   | (refine ⟨trivial,?_⟩; rename_i Kc hc; refine hc _ _ ?_)
  exact ⟨KeepsT.of B3,(HS2.out.keep HB2.out).keep B3,chgB (chgB HC2.out HB2.out) B3⟩
 ·intro _ D4 v5 hD4 kD4 S C
  have hC:=C.mono (F':=K) (fun y _ e=>by have e':y=g:=e; rw [e']; exact A.sx.sa.top)
  have hK:∀ b,K b->K b\/v3.heap.size<=b:=fun _ h=>.inl h
  have DF2:=DF.op A.sx.sa hC
  replace DF:=DF.add hD4 A.size DF2 kD4
  clear DF2 hD4 kD4 IT RA HX HS gl n2
  obtain ⟨Xg2,nXg2⟩:=bk_op Xg2 nXg2 hK hC
  replace A:=A.op S hK hC
  refine ge_bn (ge_then (gc_seq (gc_reg (t 24 (pg g) (tc 25 79 #[pg g] (sum_any A.sx (by omega) (by omega)) ?_)))))
  rintro _ v6 ⟨sa,sk,sd,rfl,Ns,hk,S,C⟩
  refine ⟨_,rfl,?_⟩
  have hC:=C.mono (F':=K) (fun y _ e=>by have e':y=g:=e; rw [e']; exact A.sx.sa.top)
  have hK:∀ b,K b->K b\/v5.heap.size<=b:=fun _ h=>.inl h
  replace DF:=DF.op A.sx.sa hC
  obtain ⟨Xg2,nXg2⟩:=bk_op Xg2 nXg2 hK hC
  replace A:=A.op S hK hC
  rw [hs] at Ns
  refine tc 26 80 #[iU 1000000000000000000] (wOf (by decide) (by decide)) ?_
  rintro _ v7 ⟨oa,ok,od,rfl,No,hko,B⟩
  refine ⟨_,rfl,?_⟩
  replace A:=A.keep B
  replace Xg2:=Xg2.keep B
  replace DF:=DF.keep B
  replace Ns:=Ns.keep B
  refine tc 27 78 #[.slice sa sk sd,.slice oa ok od] (sg0 Ns.o.a No.o.a (by omega) (by omega) hx) ?_
  rintro _ v8 ⟨rfl,B⟩
  refine ⟨_,rfl,?_⟩
  replace A:=A.keep B
  replace Xg2:=Xg2.keep B
  replace DF:=DF.keep B
  replace Ns:=Ns.keep B
  replace No:=No.keep B
  clear Ns
  clear No
  refine t 28 (bT) (ts Xg2 0 (bT) [bT] [bT] ?_)
  intro v9 Y C
  replace A:=Bk.At.cell A Xg2 C zg2 nXg2 (by decide)
  replace DF:=DF.cell Xg2 C
  have Xg2:=Y
  refine gl_nil (ge_then (gc_ret (ge_retD (b:=w.heap.size) (v:=bT) [D4] DF (rscM 2 Xg2 (fun _ h=>l1 h 0) (by kernel_rfl) (by kernel_rfl)) ?_)))
  intro Vz Rz
  exact At.rle A Rz (by omega)
 ·intro _ _ _ _ h
  exact h.elim
theorem r3d {B:Nat} {w:World} {K:Nat->Prop} {g:Nat} {E:Ents} {n N:Nat}  (P:Bare E) (h:Sx B w K g E [] n N) (O:One E 0) (hn:n<=50000) (hN:N<=1000):Calls Tryz.prog 37 #[pg g] w (RlE B w K g E n N 5 (.bool false)):=by
 have A:=h.at
 have DF:=Dfs.nil w.heap.size w
 refine gc_enterM (n:=29) Tryz.func37 rfl (by kernel_rfl) (by kernel_rfl) ?_
 have hc:(0:Int)<=0/\(0:Int) < 18446744073709551616:=by decide
 refine gc_seq (gc_reg (ta 2 [bF] 4 (pg) ?_))
 intro v1 g2 Xg2 hg2 B
 obtain ⟨zg2,nXg2,A⟩:=A.al hg2 B
 replace DF:=DF.keep B
 clear B
 refine gl_nil (ge_then (gc_seq (gc_seq (gc_reg (t 5 (pg g) (tc 6 75 #[pg g,iI 4,.func (.func 76) #[] #[]] (recs4 A.sx (by omega) (by omega) (by rw [O.one]; intro x hx; rw [List.mem_singleton.1 hx]; exact ak4.2.2)) ?_))))))
 rintro _ v3 ⟨bp,br,EL,Rd1,rfl,IT,RA,hEL,B⟩
 refine ⟨_,rfl,?_⟩
 replace A:=A.keep B
 replace DF:=DF.keep B
 replace Xg2:=Xg2.keep B
 clear B
 refine gl_nil (ge_then (gc_block (gc_fr [(0,pg g),(2,pg g2),(6,.func (.func 231) #[] #[pg bp,pg br])] ?_)))
 have gl:=A.lt A.sx.sa.top
 have n2:g2≠g:=fun e=>nXg2 (by rw [e]; exact A.sx.sa.top)
 have HX:=hid3 Xg2
 have HS:=hid3 A
 have HEL:=hid3 hEL
 have hE1:EL.length=1:=by have h1:=congrArg List.length hEL; rw [O.one] at h1; simpa using h1
 refine gc_it IT (enters_of Tryz.func231 (by kernel_rfl) rfl) (fun i args n V W h _=>h) (fun i args n V h=>by obtain ⟨e,_,rfl⟩:=h; rfl) A.sx RA (fun i=>i=0) (fun V=>Sx B V K g E [] (n + 1 + 1) N/\Chg (fun b=>b=g\/b=g2) v3 V/\Blk V g2 [bF] 4) (fun P Q h r=>⟨sx_rcd h.1 r,chg_rcd h.2.1 r (Nat.le_refl _),rec_cel h.2.2 r⟩) rfl ?_ ?_ ?_
 ·intro a r
  obtain ⟨xx,hxx⟩:=fr_op r
  rw [hxx.trans (show _=#[pg g,xx 1,pg g2,xx 3,xx 4,xx 5,.func (.func 231) #[] #[pg bp,pg br],xx 7,xx 8,xx 9,xx 10,xx 11,xx 12,xx 13,xx 14,xx 15,xx 16,xx 17,xx 18,xx 19,xx 20,xx 21,xx 22,xx 23,xx 24,xx 25,xx 26,xx 27,xx 28] from rfl)]
  clear r hxx Xg2 A DF IT RA hEL
  rintro l2 i args V Wv hl hlV hrec hiN ⟨hj,hS,hC⟩ hb ⟨e0,he0,rfl⟩
  obtain ⟨rfl,q1,q2,q3,q4⟩:=O.el hc HEL.out he0
  rw [q1,q2,q3,q4]
  have hVW:=hb.size
  have zC:=hC.size
  have nK:=hid3 (blk_new Wv [iI 4,iU 4,iU 0] 35)
  have b1:=hid3 (below_alloc Wv (.cells #[iI 4,iU 4,iU 0] 35))
  have nA:=hid3 (blk_new (Wv.alloc (.cells #[iI 4,iU 4,iU 0] 35)) [iU 0,iU 0] 39)
  have b2:=hid3 (below_alloc (Wv.alloc (.cells #[iI 4,iU 4,iU 0] 35)) (.cells #[iU 0,iU 0] 39))
  have z1:(Wv.alloc (.cells #[iI 4,iU 4,iU 0] 35)).heap.size=Wv.heap.size + 1:=by simp
  rw [z1] at nA
  simp
  gi_wp2
  refine ⟨joinB b1.out b2.out,?_⟩
  intro V2 W2 hS2 hC2 hb2 hAr2 hoth hsz3 hV2 rl hrec2
  have k1:Blk W2 Wv.heap.size [iI 4,iU 4,iU 0] 35:=⟨by rw [hoth _ (by omega)]; exact (nK.out.keep b2.out).blk⟩
  have k2:Blk W2 (Wv.heap.size + 1) [iU 0,iU 0] 39:=⟨by rw [hoth _ (by omega)]; exact nA.out.blk⟩
  have HK1:=hid3 k1
  have HK2:=hid3 k2
  have HC2:=hid3 hC2
  have HS2:=hid3 hS2
  have HB2:=hid3 hb2
  have a4:=k1.cell (i:=1) rfl
  have x2:=(HX.out.chg hC2 n2).keep hb2
  have HX2:=hid3 x2
  clear hS hC hb hS2 hC2 hb2 hAr2 hoth hsz3 k1 k2 nK nA b1 b2 x2
  gi_wp2_with first
   | (refine ⟨trivial,rfl,?_⟩; gi_at_call 77; refine (CallsIn.inRound l2 (callsIn_wide.2 mod4)).mono ?_; rintro e' w3 ⟨rfl,B3⟩; clear a4; have c0:=(HK2.out.keep B3).cell (i:=0) rfl; have c1:=(HK2.out.keep B3).cell (i:=1) rfl; have f0:=(HX2.out.keep B3).cell (i:=0) rfl; have f1:=(HX2.out.keep B3).free 0)
   | (refine ⟨trivial,?_⟩; rename_i Kc hc; refine hc _ _ ?_)
  have Cs:=chgSet g2 (bF) w3
  have Xs:=(HX2.out.keep B3).setCell (i:=0) (bF)
  refine ⟨⟨Nat.le_trans B3.size Cs.size,fun k o hk h0 _=>(Cs.same k (Nat.lt_of_lt_of_le (lt_of_block h0) B3.size) (fun e=>by have e':k=g2:=e; have:=HX.out.lt; omega)).trans ((B3.block k (lt_of_block h0)).trans h0)⟩,rfl,?_,?_,Xs⟩
  ·exact sx_cell ((HS2.out.keep HB2.out).keep B3) (HX2.out.keep B3) Cs nXg2 (by decide)
  ·exact ((chgB (chgB HC2.out HB2.out) B3).mono (fun _ _ h=>.inl h)).trans Cs (fun _ _ h=>.inr h)
 ·intro h
  omega
 ·intro D4 v5 hD4 kD4 X
  obtain ⟨S,C,X3⟩:=X
  have DF2:Dfs w.heap.size [] v5:=Dfs.nil _ _
  have DF3:=(Dfs.nil w.heap.size v3).add hD4 A.size DF2 kD4
  refine ge_br (ge_tr (ge_retD (b:=w.heap.size) (v:=bF) [D4] DF3 (rscM 2 X3 (fun _ h=>l1 h 0) (by kernel_rfl) (by kernel_rfl)) ?_))
  intro Vz Rz
  refine ⟨rfl,K,_,sx_rcd S Rz,?_,A.km,chg_rcd (A.cc.trans C (fun b hb h=>h.elim (fun e=>by rw [e]; exact A.sx.sa.top) (fun e=>absurd hb (by omega)))) Rz (Nat.le_refl _)⟩
  omega
end Sd
end Go.Proofs.YtopifdikfhffgaaGreat
