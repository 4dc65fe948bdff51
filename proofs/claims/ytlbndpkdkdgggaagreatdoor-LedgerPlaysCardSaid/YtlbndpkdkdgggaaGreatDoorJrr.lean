/- Several texts, joined: LgI2, LgI3, LgV, LgK, LgW, LgX, LgY. -/
import Derived.Test.YtlbndpkdkdgggaaGreatDoorJrq
import Derived.Test.YtlbndpkdkdgggaaGreatDoorJrp
import Derived.Test.YtlbndpkdkdgggaaGreatDoorJre
set_option maxRecDepth 100000
set_option maxHeartbeats 8000000
namespace Go.Proofs.YtlbndpkdkdgggaaGreatDoor
section
namespace Lg
open Go.RowKit Go.Lib Lim Pg Gl
set_option linter.unusedVariables false
theorem rsc3 {P:Program} {n:Nat} {w:World} {l:Fr} {fn:Func} (j k m:Nat) {T:TypeId} {g:Nat} {u v x:Value} (h:fn.results=#[.cell j T,.tmp k,.tmp m]) (hu:lk l j=some (.pointer (some ⟨g,0,none⟩))) (hv:lk l k=some v) (hx:lk l m=some x) (hl:(loadVar T ⟨g,0,none⟩).run P w=.ok u w) (a:Act) (r:Rd n [] l a):(results fn a.tmps).run P w=.ok (.tuple #[u,v,x]) w:=by
 have h1:=r.gD hu
 have h2:=r.gD hv
 have h3:=r.gD hx
 simp at h1 h2 h3
 simp [results,h,h1,h2,h3,asAddr,hl]
theorem LK_n {g bm:Nat} {L L':List Ms} (h:L'.map Ms.n=L.map Ms.n):LK g bm L'=LK g bm L:=by
 have key:∀ {A B:List Ms},A.map Ms.n=B.map Ms.n->∀ q,(∃ m∈A,q=m.g)->∃ m∈B,q=m.g:=fun {A B} e q=>by
  rintro ⟨m,hm,rfl⟩
  have:m.n∈B.map Ms.n:=e▸List.mem_map.2 ⟨m,hm,rfl⟩
  obtain ⟨y,hy,e2⟩:=List.mem_map.1 this
  exact ⟨y,hy,(congrArg Mn.g e2).symm⟩
 funext q
 exact propext ⟨fun k=>k.imp id (Or.imp id (key h q)),fun k=>k.imp id (Or.imp id (key h.symm q))⟩
theorem tick_o {S T:St} {v:Int} {N:Nat} (hL:Fs S N) (h:T=sOn S v fun s=>(s.1,s.2.1,s.2.2.1 + 1,s.2.2.2)) {x:(Int × Int) × Stk} (hx:x∈T):Ft x.2.2.1 N:=by
 subst h
 obtain ⟨e,he,e2⟩:=List.mem_map.1 hx
 have h3:e.2.2.1=x.2.2.1:=by
  subst e2
  split<;>rfl
 rw [<- h3]
 exact (hL e he).2.1
theorem _root_.Go.Proofs.YtlbndpkdkdgggaaGreatDoor.NatA.lp0 {w W:World} {g:Nat} {cs:List Value} {t:TypeId} {a:Option Addr} {n c:Nat} {x:Int} (N:NatA w a n c x) (X:Blk w g cs t) (C:Chg (· = g) w W) (hn:cs.all nu=true:=by rfl):NatA W a n c x:=NatA.cg N X C hn
theorem sumStakes {w:World} {g:Nat} {K:Nat->Prop} {S:St} {L:Nat} {v:Int} (hv:0<=v/\v < 18446744073709551616) (M:Lm w g K S) (hL:Fs S L) (hl:L<=640000) (hn:S.length<=100):Calls Tryz.prog 68 #[pg g,.int .u64 v,.func (.func 69) #[] #[]] w fun e w'=>∃ a n c b m d_,e=.returned (.agg #[.slice a n c,.slice b m d_])/\RQ w' a n c b m d_ (sStakes S v)/\Below w.heap.size w w':=by
 rcases M with ⟨bm,clock,Ls,X,M,rfl,hU,rfl⟩ | ⟨X,rfl,rfl⟩
 ·have hbm:=lt_of_block M.ob
  have hml:∀ m∈Ls,m.g < w.heap.size:=fun m hm=>(M.blk m hm).lt
  have hgl:=X.lt
  have X0:=X
  have M0:=M
  have hF0:∀ m∈Ls,Ft m.r (64 * 10000):=fun m hm=>ft_up (fs_f hL m hm).1 (by omega)
  have BB:=Below.refl w.heap.size w
  refine gc_enter (n:=14) Tryz.func68 rfl ?_
  clear BB
  have BB:=Chg.refl (fun _=>False) w
  have LP:=Lp.refl w
  refine gc_seq (gc_reg ?_)
  have lX:=X.lt
  refine ta 5 [.func (.func 69) #[] #[]] 96 (pg) ?_
  intro v1 g2 Xg2 hg2 B
  have hbg2:=Nat.le_trans BB.size hg2
  replace X:=X.keep B
  replace BB:=BB.trans (Chg.of (F:=fun _=>False) B) (fun _ _ k=>k.elim)
  replace LP:=LP.trans (Lp.of B)
  replace M:=M.keep B
  have lX:=X.lt
  have lXg2:=Xg2.lt
  refine ta 6 [zS,zS] 40 (pg) ?_
  intro v3 g4 Xg4 hg4 B
  have hbg4:=Nat.le_trans BB.size hg4
  replace X:=X.keep B
  replace BB:=BB.trans (Chg.of (F:=fun _=>False) B) (fun _ _ k=>k.elim)
  replace LP:=LP.trans (Lp.of B)
  replace M:=M.keep B
  replace Xg2:=Xg2.keep B
  refine gl_nil (ge_then (gc_seq (gc_reg ?_)))
  have lX:=X.lt
  have lXg2:=Xg2.lt
  have lXg4:=Xg4.lt
  refine ta 7 [zS] 61 (pg) ?_
  intro v5 g6 Xg6 hg6 B
  have hbg6:=Nat.le_trans BB.size hg6
  replace X:=X.keep B
  replace BB:=BB.trans (Chg.of (F:=fun _=>False) B) (fun _ _ k=>k.elim)
  replace LP:=LP.trans (Lp.of B)
  replace M:=M.keep B
  replace Xg2:=Xg2.keep B
  replace Xg4:=Xg4.keep B
  refine gl_nil (ge_then (gc_seq (gc_reg (t 8 (pg g) (t 9 (iU v) (t 10 (.func (.func 104) #[] #[pg g6,pg g2]) (tc 11 50 #[pg g,iU v,.func (.func 104) #[] #[pg g6,pg g2]] (eStakes X M Xg6 Xg2 (show g6≠g2 by omega) hF0 (by rw [List.length_map] at hn; omega) (show g≠g6 by omega)) ?_)))))))
  rintro _ v7 ⟨ao_,n_,c_,l_,rfl,Y2,PT,hZ,hT,hn_,C⟩
  refine ⟨_,rfl,?_⟩
  replace BB:=BB.trans C (fun b hb k=>absurd hb (Nat.not_lt.2 ((show b=g6 from k)▸hbg6)))
  replace LP:=LP.trans (Lp.cg Xg6 C (by rfl))
  clear X M Xg6
  have Xg6:=Y2
  clear Y2
  replace Xg4:=Xg4.chg C (show g4≠g6 by omega)
  refine gl_nil (ge_then (gc_seq (gc_reg (tl 12 (.slice ao_ n_ c_) Xg6 0 ?_))))
  obtain ⟨lR_,hlr,hRl0,hRl⟩:=PT.ratl hZ
  refine tc 13 58 #[.slice ao_ n_ c_] (pSum hlr (by rw [List.length_map] at hn; omega) (B:=10000) (by decide) hRl) ?_
  rintro _ v9 ⟨aq8,kq8,dq8,bq8,lq8,eq8,rfl,Qq8,B⟩
  refine ⟨_,rfl,?_⟩
  replace BB:=BB.trans (Chg.of (F:=fun _=>False) B) (fun _ _ k=>k.elim)
  replace LP:=LP.trans (Lp.of B)
  replace Xg4:=Xg4.keep B
  replace Xg6:=Xg6.keep B
  refine ts Xg4 0 (.agg #[.slice aq8 kq8 dq8,.slice bq8 lq8 eq8]) [.slice aq8 kq8 dq8,.slice bq8 lq8 eq8] [.slice aq8 kq8 dq8,.slice bq8 lq8 eq8] ?_
  intro v10 Y' C
  have P:=Lp.z0 Xg4 C (by rfl)
  replace BB:=BB.trans C (fun b hb k=>absurd hb (Nat.not_lt.2 ((show b=g4 from k)▸hbg4)))
  replace LP:=LP.trans P
  replace Xg6:=Xg6.chg C (show g6≠g4 by omega)
  replace Qq8:=Qq8.lp P
  clear C P Xg4
  have Xg4:=Y'
  clear Y'
  refine gl_nil (ge_then (gc_fr [(6,pg g4)] (gc_ret (ge_ret (.agg #[.slice aq8 kq8 dq8,.slice bq8 lq8 eq8]) (rsc 6 (T:=40) (by kernel_rfl) (by kernel_rfl) (lr Xg4 0)) ?_))))
  exact ⟨aq8,kq8,dq8,bq8,lq8,eq8,rfl,Qq8.is (hRl0.trans hT),BB.nothing⟩
 ·have hgl:=X.lt
  have X0:=X
  have BB:=Below.refl w.heap.size w
  refine gc_enter (n:=14) Tryz.func68 rfl ?_
  clear BB
  have BB:=Chg.refl (fun _=>False) w
  have LP:=Lp.refl w
  refine gc_seq (gc_reg ?_)
  have lX:=X.lt
  refine ta 5 [.func (.func 69) #[] #[]] 96 (pg) ?_
  intro v1 g2 Xg2 hg2 B
  have hbg2:=Nat.le_trans BB.size hg2
  replace X:=X.keep B
  replace BB:=BB.trans (Chg.of (F:=fun _=>False) B) (fun _ _ k=>k.elim)
  replace LP:=LP.trans (Lp.of B)
  have lX:=X.lt
  have lXg2:=Xg2.lt
  refine ta 6 [zS,zS] 40 (pg) ?_
  intro v3 g4 Xg4 hg4 B
  have hbg4:=Nat.le_trans BB.size hg4
  replace X:=X.keep B
  replace BB:=BB.trans (Chg.of (F:=fun _=>False) B) (fun _ _ k=>k.elim)
  replace LP:=LP.trans (Lp.of B)
  replace Xg2:=Xg2.keep B
  refine gl_nil (ge_then (gc_seq (gc_reg ?_)))
  have lX:=X.lt
  have lXg2:=Xg2.lt
  have lXg4:=Xg4.lt
  refine ta 7 [zS] 61 (pg) ?_
  intro v5 g6 Xg6 hg6 B
  have hbg6:=Nat.le_trans BB.size hg6
  replace X:=X.keep B
  replace BB:=BB.trans (Chg.of (F:=fun _=>False) B) (fun _ _ k=>k.elim)
  replace LP:=LP.trans (Lp.of B)
  replace Xg2:=Xg2.keep B
  replace Xg4:=Xg4.keep B
  refine gl_nil (ge_then (gc_seq (gc_reg (t 8 (pg g) (t 9 (iU v) (t 10 (.func (.func 104) #[] #[pg g6,pg g2]) (tc 11 50 #[pg g,iU v,.func (.func 104) #[] #[pg g6,pg g2]] (all_nil X) ?_)))))))
  rintro _ v7 ⟨rfl,B⟩
  refine ⟨_,rfl,?_⟩
  replace X:=X.keep B
  replace BB:=BB.trans (Chg.of (F:=fun _=>False) B) (fun _ _ k=>k.elim)
  replace LP:=LP.trans (Lp.of B)
  replace Xg2:=Xg2.keep B
  replace Xg4:=Xg4.keep B
  replace Xg6:=Xg6.keep B
  refine gl_nil (ge_then (gc_seq (gc_reg (tl 12 (zS) Xg6 0 (tc 13 58 #[zS] (pSum0) ?_)))))
  rintro _ v9 ⟨aq8,kq8,dq8,bq8,lq8,eq8,rfl,Qq8,B⟩
  refine ⟨_,rfl,?_⟩
  replace X:=X.keep B
  replace BB:=BB.trans (Chg.of (F:=fun _=>False) B) (fun _ _ k=>k.elim)
  replace LP:=LP.trans (Lp.of B)
  replace Xg2:=Xg2.keep B
  replace Xg4:=Xg4.keep B
  replace Xg6:=Xg6.keep B
  refine ts Xg4 0 (.agg #[.slice aq8 kq8 dq8,.slice bq8 lq8 eq8]) [.slice aq8 kq8 dq8,.slice bq8 lq8 eq8] [.slice aq8 kq8 dq8,.slice bq8 lq8 eq8] ?_
  intro v10 Y' C
  have P:=Lp.z0 Xg4 C (by rfl)
  replace X:=X.chg C (show g≠g4 by omega)
  replace BB:=BB.trans C (fun b hb k=>absurd hb (Nat.not_lt.2 ((show b=g4 from k)▸hbg4)))
  replace LP:=LP.trans P
  replace Xg2:=Xg2.chg C (show g2≠g4 by omega)
  replace Xg6:=Xg6.chg C (show g6≠g4 by omega)
  replace Qq8:=Qq8.lp P
  clear C P Xg4
  have Xg4:=Y'
  clear Y'
  refine gl_nil (ge_then (gc_fr [(6,pg g4)] (gc_ret (ge_ret (.agg #[.slice aq8 kq8 dq8,.slice bq8 lq8 eq8]) (rsc 6 (T:=40) (by kernel_rfl) (by kernel_rfl) (lr Xg4 0)) ?_))))
  exact ⟨aq8,kq8,dq8,bq8,lq8,eq8,rfl,Qq8.is (by rfl),BB.nothing⟩
theorem lStakes {w:World} {g:Nat} {K:Nat->Prop} {S:St} {L:Nat} {v:Int} (hv:0<=v/\v < 18446744073709551616) (M:Lm w g K S) (hL:Fs S L) (hl:L<=640000) (hn:S.length<=100):Calls Tryz.prog 27 #[pg g,.int .u64 v] w fun e w'=>∃ a n c b m d_,e=.returned (.agg #[.slice a n c,.slice b m d_])/\RQ w' a n c b m d_ (sStakes S v)/\Below w.heap.size w w':=by
 have BB:=Below.refl w.heap.size w
 refine gc_enter (n:=8) Tryz.func27 rfl ?_
 refine gc_seq (gc_reg (ta 4 [zS,zS] 40 (pg) ?_))
 intro v1 g2 Xg2 hg2 B
 replace BB:=joinB BB B
 refine gl_nil (ge_then (gc_seq (gc_reg (t 5 (pg g) (t 6 (iU v) (tc 7 68 #[pg g,iU v,.func (.func 69) #[] #[]] (sumStakes hv (M.keep BB) hL hl hn) ?_))))))
 rintro _ v4 ⟨aq3,kq3,dq3,bq3,lq3,eq3,rfl,Qq3,B⟩
 refine ⟨_,rfl,?_⟩
 replace BB:=joinB BB B
 replace Xg2:=Xg2.keep B
 refine ts Xg2 0 (.agg #[.slice aq3 kq3 dq3,.slice bq3 lq3 eq3]) [.slice aq3 kq3 dq3,.slice bq3 lq3 eq3] [.slice aq3 kq3 dq3,.slice bq3 lq3 eq3] ?_
 intro v5 Y C
 replace BB:=belowC BB C (by omega)
 replace Qq3:=Qq3.cg Xg2 C (by rfl)
 have Xg2:=Y
 refine gl_nil (ge_then (gc_ret (ge_ret (.agg #[.slice aq3 kq3 dq3,.slice bq3 lq3 eq3]) (rsc 4 (T:=40) (by kernel_rfl) (by kernel_rfl) (lr Xg2 0)) ?_)))
 exact ⟨aq3,kq3,dq3,bq3,lq3,eq3,rfl,Qq3,BB⟩
theorem sumOwes {w:World} {g:Nat} {K:Nat->Prop} {S:St} {L:Nat} {v:Int} (hv:0<=v/\v < 18446744073709551616) (M:Lm w g K S) (hL:Fs S L) (hl:L<=640000) (hn:S.length<=100):Calls Tryz.prog 68 #[pg g,.int .u64 v,.func (.func 70) #[] #[]] w fun e w'=>∃ a n c b m d_,e=.returned (.agg #[.slice a n c,.slice b m d_])/\RQ w' a n c b m d_ (sOwes S v)/\Below w.heap.size w w':=by
 rcases M with ⟨bm,clock,Ls,X,M,rfl,hU,rfl⟩ | ⟨X,rfl,rfl⟩
 ·have hbm:=lt_of_block M.ob
  have hml:∀ m∈Ls,m.g < w.heap.size:=fun m hm=>(M.blk m hm).lt
  have hgl:=X.lt
  have X0:=X
  have M0:=M
  have hF0:∀ m∈Ls,Ft m.o (64 * 10000):=fun m hm=>ft_up (fs_f hL m hm).2 (by omega)
  have BB:=Below.refl w.heap.size w
  refine gc_enter (n:=14) Tryz.func68 rfl ?_
  clear BB
  have BB:=Chg.refl (fun _=>False) w
  have LP:=Lp.refl w
  refine gc_seq (gc_reg ?_)
  have lX:=X.lt
  refine ta 5 [.func (.func 70) #[] #[]] 96 (pg) ?_
  intro v1 g2 Xg2 hg2 B
  have hbg2:=Nat.le_trans BB.size hg2
  replace X:=X.keep B
  replace BB:=BB.trans (Chg.of (F:=fun _=>False) B) (fun _ _ k=>k.elim)
  replace LP:=LP.trans (Lp.of B)
  replace M:=M.keep B
  have lX:=X.lt
  have lXg2:=Xg2.lt
  refine ta 6 [zS,zS] 40 (pg) ?_
  intro v3 g4 Xg4 hg4 B
  have hbg4:=Nat.le_trans BB.size hg4
  replace X:=X.keep B
  replace BB:=BB.trans (Chg.of (F:=fun _=>False) B) (fun _ _ k=>k.elim)
  replace LP:=LP.trans (Lp.of B)
  replace M:=M.keep B
  replace Xg2:=Xg2.keep B
  refine gl_nil (ge_then (gc_seq (gc_reg ?_)))
  have lX:=X.lt
  have lXg2:=Xg2.lt
  have lXg4:=Xg4.lt
  refine ta 7 [zS] 61 (pg) ?_
  intro v5 g6 Xg6 hg6 B
  have hbg6:=Nat.le_trans BB.size hg6
  replace X:=X.keep B
  replace BB:=BB.trans (Chg.of (F:=fun _=>False) B) (fun _ _ k=>k.elim)
  replace LP:=LP.trans (Lp.of B)
  replace M:=M.keep B
  replace Xg2:=Xg2.keep B
  replace Xg4:=Xg4.keep B
  refine gl_nil (ge_then (gc_seq (gc_reg (t 8 (pg g) (t 9 (iU v) (t 10 (.func (.func 104) #[] #[pg g6,pg g2]) (tc 11 50 #[pg g,iU v,.func (.func 104) #[] #[pg g6,pg g2]] (eOwes X M Xg6 Xg2 (show g6≠g2 by omega) hF0 (by rw [List.length_map] at hn; omega) (show g≠g6 by omega)) ?_)))))))
  rintro _ v7 ⟨ao_,n_,c_,l_,rfl,Y2,PT,hZ,hT,hn_,C⟩
  refine ⟨_,rfl,?_⟩
  replace BB:=BB.trans C (fun b hb k=>absurd hb (Nat.not_lt.2 ((show b=g6 from k)▸hbg6)))
  replace LP:=LP.trans (Lp.cg Xg6 C (by rfl))
  clear X M Xg6
  have Xg6:=Y2
  clear Y2
  replace Xg4:=Xg4.chg C (show g4≠g6 by omega)
  refine gl_nil (ge_then (gc_seq (gc_reg (tl 12 (.slice ao_ n_ c_) Xg6 0 ?_))))
  obtain ⟨lR_,hlr,hRl0,hRl⟩:=PT.ratl hZ
  refine tc 13 58 #[.slice ao_ n_ c_] (pSum hlr (by rw [List.length_map] at hn; omega) (B:=10000) (by decide) hRl) ?_
  rintro _ v9 ⟨aq8,kq8,dq8,bq8,lq8,eq8,rfl,Qq8,B⟩
  refine ⟨_,rfl,?_⟩
  replace BB:=BB.trans (Chg.of (F:=fun _=>False) B) (fun _ _ k=>k.elim)
  replace LP:=LP.trans (Lp.of B)
  replace Xg4:=Xg4.keep B
  replace Xg6:=Xg6.keep B
  refine ts Xg4 0 (.agg #[.slice aq8 kq8 dq8,.slice bq8 lq8 eq8]) [.slice aq8 kq8 dq8,.slice bq8 lq8 eq8] [.slice aq8 kq8 dq8,.slice bq8 lq8 eq8] ?_
  intro v10 Y' C
  have P:=Lp.z0 Xg4 C (by rfl)
  replace BB:=BB.trans C (fun b hb k=>absurd hb (Nat.not_lt.2 ((show b=g4 from k)▸hbg4)))
  replace LP:=LP.trans P
  replace Xg6:=Xg6.chg C (show g6≠g4 by omega)
  replace Qq8:=Qq8.lp P
  clear C P Xg4
  have Xg4:=Y'
  clear Y'
  refine gl_nil (ge_then (gc_fr [(6,pg g4)] (gc_ret (ge_ret (.agg #[.slice aq8 kq8 dq8,.slice bq8 lq8 eq8]) (rsc 6 (T:=40) (by kernel_rfl) (by kernel_rfl) (lr Xg4 0)) ?_))))
  exact ⟨aq8,kq8,dq8,bq8,lq8,eq8,rfl,Qq8.is (hRl0.trans hT),BB.nothing⟩
 ·have hgl:=X.lt
  have X0:=X
  have BB:=Below.refl w.heap.size w
  refine gc_enter (n:=14) Tryz.func68 rfl ?_
  clear BB
  have BB:=Chg.refl (fun _=>False) w
  have LP:=Lp.refl w
  refine gc_seq (gc_reg ?_)
  have lX:=X.lt
  refine ta 5 [.func (.func 70) #[] #[]] 96 (pg) ?_
  intro v1 g2 Xg2 hg2 B
  have hbg2:=Nat.le_trans BB.size hg2
  replace X:=X.keep B
  replace BB:=BB.trans (Chg.of (F:=fun _=>False) B) (fun _ _ k=>k.elim)
  replace LP:=LP.trans (Lp.of B)
  have lX:=X.lt
  have lXg2:=Xg2.lt
  refine ta 6 [zS,zS] 40 (pg) ?_
  intro v3 g4 Xg4 hg4 B
  have hbg4:=Nat.le_trans BB.size hg4
  replace X:=X.keep B
  replace BB:=BB.trans (Chg.of (F:=fun _=>False) B) (fun _ _ k=>k.elim)
  replace LP:=LP.trans (Lp.of B)
  replace Xg2:=Xg2.keep B
  refine gl_nil (ge_then (gc_seq (gc_reg ?_)))
  have lX:=X.lt
  have lXg2:=Xg2.lt
  have lXg4:=Xg4.lt
  refine ta 7 [zS] 61 (pg) ?_
  intro v5 g6 Xg6 hg6 B
  have hbg6:=Nat.le_trans BB.size hg6
  replace X:=X.keep B
  replace BB:=BB.trans (Chg.of (F:=fun _=>False) B) (fun _ _ k=>k.elim)
  replace LP:=LP.trans (Lp.of B)
  replace Xg2:=Xg2.keep B
  replace Xg4:=Xg4.keep B
  refine gl_nil (ge_then (gc_seq (gc_reg (t 8 (pg g) (t 9 (iU v) (t 10 (.func (.func 104) #[] #[pg g6,pg g2]) (tc 11 50 #[pg g,iU v,.func (.func 104) #[] #[pg g6,pg g2]] (all_nil X) ?_)))))))
  rintro _ v7 ⟨rfl,B⟩
  refine ⟨_,rfl,?_⟩
  replace X:=X.keep B
  replace BB:=BB.trans (Chg.of (F:=fun _=>False) B) (fun _ _ k=>k.elim)
  replace LP:=LP.trans (Lp.of B)
  replace Xg2:=Xg2.keep B
  replace Xg4:=Xg4.keep B
  replace Xg6:=Xg6.keep B
  refine gl_nil (ge_then (gc_seq (gc_reg (tl 12 (zS) Xg6 0 (tc 13 58 #[zS] (pSum0) ?_)))))
  rintro _ v9 ⟨aq8,kq8,dq8,bq8,lq8,eq8,rfl,Qq8,B⟩
  refine ⟨_,rfl,?_⟩
  replace X:=X.keep B
  replace BB:=BB.trans (Chg.of (F:=fun _=>False) B) (fun _ _ k=>k.elim)
  replace LP:=LP.trans (Lp.of B)
  replace Xg2:=Xg2.keep B
  replace Xg4:=Xg4.keep B
  replace Xg6:=Xg6.keep B
  refine ts Xg4 0 (.agg #[.slice aq8 kq8 dq8,.slice bq8 lq8 eq8]) [.slice aq8 kq8 dq8,.slice bq8 lq8 eq8] [.slice aq8 kq8 dq8,.slice bq8 lq8 eq8] ?_
  intro v10 Y' C
  have P:=Lp.z0 Xg4 C (by rfl)
  replace X:=X.chg C (show g≠g4 by omega)
  replace BB:=BB.trans C (fun b hb k=>absurd hb (Nat.not_lt.2 ((show b=g4 from k)▸hbg4)))
  replace LP:=LP.trans P
  replace Xg2:=Xg2.chg C (show g2≠g4 by omega)
  replace Xg6:=Xg6.chg C (show g6≠g4 by omega)
  replace Qq8:=Qq8.lp P
  clear C P Xg4
  have Xg4:=Y'
  clear Y'
  refine gl_nil (ge_then (gc_fr [(6,pg g4)] (gc_ret (ge_ret (.agg #[.slice aq8 kq8 dq8,.slice bq8 lq8 eq8]) (rsc 6 (T:=40) (by kernel_rfl) (by kernel_rfl) (lr Xg4 0)) ?_))))
  exact ⟨aq8,kq8,dq8,bq8,lq8,eq8,rfl,Qq8.is (by rfl),BB.nothing⟩
theorem lOwes {w:World} {g:Nat} {K:Nat->Prop} {S:St} {L:Nat} {v:Int} (hv:0<=v/\v < 18446744073709551616) (M:Lm w g K S) (hL:Fs S L) (hl:L<=640000) (hn:S.length<=100):Calls Tryz.prog 29 #[pg g,.int .u64 v] w fun e w'=>∃ a n c b m d_,e=.returned (.agg #[.slice a n c,.slice b m d_])/\RQ w' a n c b m d_ (sOwes S v)/\Below w.heap.size w w':=by
 have BB:=Below.refl w.heap.size w
 refine gc_enter (n:=8) Tryz.func29 rfl ?_
 refine gc_seq (gc_reg (ta 4 [zS,zS] 40 (pg) ?_))
 intro v1 g2 Xg2 hg2 B
 replace BB:=joinB BB B
 refine gl_nil (ge_then (gc_seq (gc_reg (t 5 (pg g) (t 6 (iU v) (tc 7 68 #[pg g,iU v,.func (.func 70) #[] #[]] (sumOwes hv (M.keep BB) hL hl hn) ?_))))))
 rintro _ v4 ⟨aq3,kq3,dq3,bq3,lq3,eq3,rfl,Qq3,B⟩
 refine ⟨_,rfl,?_⟩
 replace BB:=joinB BB B
 replace Xg2:=Xg2.keep B
 refine ts Xg2 0 (.agg #[.slice aq3 kq3 dq3,.slice bq3 lq3 eq3]) [.slice aq3 kq3 dq3,.slice bq3 lq3 eq3] [.slice aq3 kq3 dq3,.slice bq3 lq3 eq3] ?_
 intro v5 Y C
 replace BB:=belowC BB C (by omega)
 replace Qq3:=Qq3.cg Xg2 C (by rfl)
 have Xg2:=Y
 refine gl_nil (ge_then (gc_ret (ge_ret (.agg #[.slice aq3 kq3 dq3,.slice bq3 lq3 eq3]) (rsc 4 (T:=40) (by kernel_rfl) (by kernel_rfl) (lr Xg2 0)) ?_)))
 exact ⟨aq3,kq3,dq3,bq3,lq3,eq3,rfl,Qq3,BB⟩
theorem lGive {w:World} {g:Nat} {K:Nat->Prop} {S:St} {L:Nat} {v t_:Int} (hv:0<=v/\v < 18446744073709551616) {ax:Option Addr} {nx cx:Nat} {x:Int} (Nx:NatA w ax nx cx x) (lx:nx<=100) (ht:0<=t_/\t_ < 18446744073709551616) (M:Lm w g K S) (hL:Fs S L) (hl:L<=640000) (hn:S.length<=100):Calls Tryz.prog 12 #[pg g,.int .u64 v,.agg #[.slice ax nx cx],.int .u64 t_] w fun e w'=>∃ K',e=.returned (.tuple #[])/\Lm w' g K' (sGive S v x t_)/\(∀ b,K' b->K b\/w.heap.size<=b)/\Chg K w w'/\Lp w w':=by
 rcases M with ⟨bm,clock,Ls,X,M,rfl,hU,rfl⟩ | ⟨X,rfl,rfl⟩
 ·have hbm:=lt_of_block M.ob
  have hml:∀ m∈Ls,m.g < w.heap.size:=fun m hm=>(M.blk m hm).lt
  have hgl:=X.lt
  have X0:=X
  have M0:=M
  have hG:=fs_g M hL hl
  have hx0:=Nx.nonneg
  have hx1:=nat_lt Nx lx
  have x0:0<=(x:Rat) / ((U36:Int):Rat):=fr_nn hx0 (by decide)
  have fx:Ft ((x:Rat) / ((U36:Int):Rat)) 6500:=ft_of (by decide) hx0 rfl (Int.lt_of_lt_of_le hx1 (by decide +kernel)) (by decide +kernel)
  have e1:=qv_nn (n:=1) (d:=t_) (by decide) ht.1
  have e2:Ft (qv 1 t_) 64:=qv_ft (by decide) (by decide) ⟨ht.1,by omega⟩
  have e0:0<=((x:Rat) / ((U36:Int):Rat)) * qv 1 t_:=Rat.mul_nonneg x0 e1
  have fe:Ft (((x:Rat) / ((U36:Int):Rat)) * qv 1 t_) 6600:=ft_up (ft_mul fx e2 x0 e1) (by decide)
  have BB:=Below.refl w.heap.size w
  refine gc_enter (n:=17) Tryz.func12 rfl ?_
  clear BB
  have BB:=Chg.refl (LK g bm Ls) w
  have LP:=Lp.refl w
  refine gc_seq (gc_reg ?_)
  have lX:=X.lt
  refine ta 6 [.slice ax nx cx] 35 (pg) ?_
  intro v1 g2 Xg2 hg2 B
  have hbg2:=Nat.le_trans BB.size hg2
  replace X:=X.keep B
  replace BB:=BB.trans (Chg.of (F:=fun _=>False) B) (fun _ _ k=>k.elim)
  replace LP:=LP.trans (Lp.of B)
  replace M:=M.keep B
  refine gl_nil (ge_then (gc_seq (gc_reg (tlr 9 [.slice ax nx cx] Xg2 0 (tc 10 36 #[.agg #[.slice ax nx cx]] (pOfDec (B:=2000000) (natK Nx X0 M0 BB) (by omega) (by omega) (by omega)) ?_)))))
  rintro _ v4 ⟨aq3,kq3,dq3,bq3,lq3,eq3,rfl,Qq3,B⟩
  refine ⟨_,rfl,?_⟩
  replace X:=X.keep B
  replace BB:=BB.trans (Chg.of (F:=fun _=>False) B) (fun _ _ k=>k.elim)
  replace LP:=LP.trans (Lp.of B)
  replace M:=M.keep B
  replace Xg2:=Xg2.keep B
  refine t 11 (iU t_) (tc 12 49 #[.agg #[.slice aq3 kq3 dq3,.slice bq3 lq3 eq3],iU t_] (per_any Qq3 (ft_up fx (by decide)) ht) ?_)
  rintro _ v6 ⟨aq5,kq5,dq5,bq5,lq5,eq5,rfl,Qq5,B⟩
  refine ⟨_,rfl,?_⟩
  replace X:=X.keep B
  replace BB:=BB.trans (Chg.of (F:=fun _=>False) B) (fun _ _ k=>k.elim)
  replace LP:=LP.trans (Lp.of B)
  replace M:=M.keep B
  replace Xg2:=Xg2.keep B
  replace Qq3:=Qq3.keep B
  have lX:=X.lt
  have lXg2:=Xg2.lt
  refine ta 8 [zS,zS] 40 (pg) ?_
  intro v7 g8 Xg8 hg8 B
  have hbg8:=Nat.le_trans BB.size hg8
  replace X:=X.keep B
  replace BB:=BB.trans (Chg.of (F:=fun _=>False) B) (fun _ _ k=>k.elim)
  replace LP:=LP.trans (Lp.of B)
  replace M:=M.keep B
  replace Xg2:=Xg2.keep B
  replace Qq3:=Qq3.keep B
  replace Qq5:=Qq5.keep B
  refine ts Xg8 0 (.agg #[.slice aq5 kq5 dq5,.slice bq5 lq5 eq5]) [.slice aq5 kq5 dq5,.slice bq5 lq5 eq5] [.slice aq5 kq5 dq5,.slice bq5 lq5 eq5] ?_
  intro v9 Y' C
  have P:=Lp.z0 Xg8 C (by rfl)
  replace X:=X.chg C (show g≠g8 by omega)
  replace BB:=BB.trans C (fun b hb k=>absurd hb (Nat.not_lt.2 ((show b=g8 from k)▸hbg8)))
  replace LP:=LP.trans P
  replace M:=M.off C P (fun e=>absurd hbm (Nat.not_lt.2 ((show bm=g8 from e)▸hbg8))) (fun m hm e=>absurd (hml m hm) (Nat.not_lt.2 ((show m.g=g8 from e)▸hbg8)))
  replace Xg2:=Xg2.chg C (show g2≠g8 by omega)
  replace Qq3:=Qq3.lp P
  replace Qq5:=Qq5.lp P
  clear C P Xg8
  have Xg8:=Y'
  clear Y'
  refine gl_nil (ge_then (gc_reg (t 13 (pg g) (t 14 (iU v) (t 15 (.func (.func 51) #[] #[pg g8]) (tc 16 50 #[pg g,iU v,.func (.func 51) #[] #[pg g8]] (eGive X M Xg8 Qq5 fe e0 rfl hG) ?_))))))
  rintro _ v10 ⟨L2,rfl,X2,M2,hS2,hN2,C,P⟩
  refine ⟨_,rfl,?_⟩
  replace BB:=BB.trans C (fun b _ k=>.inr (.inr k))
  replace LP:=LP.trans P
  clear X M
  have X:=X2
  have M:=M2
  clear X2 M2
  replace Xg2:=Xg2.chg C (fun k=>by obtain ⟨m,hm,e⟩:=k; have:=hml m hm; omega)
  replace Qq3:=Qq3.lp P
  replace Qq5:=Qq5.lp P
  replace Xg8:=Xg8.chg C (fun k=>by obtain ⟨m,hm,e⟩:=k; have:=hml m hm; omega)
  clear C P
  refine gl_nil (ge_end (.tuple #[]) (rs0 (by kernel_rfl)) ?_)
  refine ⟨LK g bm Ls,rfl,.inl ⟨bm,clock,L2,X,M,?_,un_on hU,(LK_n hN2).symm⟩,fun b h=>.inl h,BB,LP⟩
  rw [hS2]
  unfold sGive
  congr 1
  funext s
  exact congrArg (fun y=>(s.1,y,s.2.2)) (by grind)
 ·have hgl:=X.lt
  have X0:=X
  have hx0:=Nx.nonneg
  have hx1:=nat_lt Nx lx
  have x0:0<=(x:Rat) / ((U36:Int):Rat):=fr_nn hx0 (by decide)
  have fx:Ft ((x:Rat) / ((U36:Int):Rat)) 6500:=ft_of (by decide) hx0 rfl (Int.lt_of_lt_of_le hx1 (by decide +kernel)) (by decide +kernel)
  have e1:=qv_nn (n:=1) (d:=t_) (by decide) ht.1
  have e2:Ft (qv 1 t_) 64:=qv_ft (by decide) (by decide) ⟨ht.1,by omega⟩
  have e0:0<=((x:Rat) / ((U36:Int):Rat)) * qv 1 t_:=Rat.mul_nonneg x0 e1
  have fe:Ft (((x:Rat) / ((U36:Int):Rat)) * qv 1 t_) 6600:=ft_up (ft_mul fx e2 x0 e1) (by decide)
  have BB:=Below.refl w.heap.size w
  refine gc_enter (n:=17) Tryz.func12 rfl ?_
  clear BB
  have BB:=Chg.refl (fun b=>b=g) w
  have LP:=Lp.refl w
  refine gc_seq (gc_reg ?_)
  have lX:=X.lt
  refine ta 6 [.slice ax nx cx] 35 (pg) ?_
  intro v1 g2 Xg2 hg2 B
  have hbg2:=Nat.le_trans BB.size hg2
  replace X:=X.keep B
  replace BB:=BB.trans (Chg.of (F:=fun _=>False) B) (fun _ _ k=>k.elim)
  replace LP:=LP.trans (Lp.of B)
  refine gl_nil (ge_then (gc_seq (gc_reg (tlr 9 [.slice ax nx cx] Xg2 0 (tc 10 36 #[.agg #[.slice ax nx cx]] (pOfDec (B:=2000000) (Nx.lp0 X0 BB) (by omega) (by omega) (by omega)) ?_)))))
  rintro _ v4 ⟨aq3,kq3,dq3,bq3,lq3,eq3,rfl,Qq3,B⟩
  refine ⟨_,rfl,?_⟩
  replace X:=X.keep B
  replace BB:=BB.trans (Chg.of (F:=fun _=>False) B) (fun _ _ k=>k.elim)
  replace LP:=LP.trans (Lp.of B)
  replace Xg2:=Xg2.keep B
  refine t 11 (iU t_) (tc 12 49 #[.agg #[.slice aq3 kq3 dq3,.slice bq3 lq3 eq3],iU t_] (per_any Qq3 (ft_up fx (by decide)) ht) ?_)
  rintro _ v6 ⟨aq5,kq5,dq5,bq5,lq5,eq5,rfl,Qq5,B⟩
  refine ⟨_,rfl,?_⟩
  replace X:=X.keep B
  replace BB:=BB.trans (Chg.of (F:=fun _=>False) B) (fun _ _ k=>k.elim)
  replace LP:=LP.trans (Lp.of B)
  replace Xg2:=Xg2.keep B
  replace Qq3:=Qq3.keep B
  have lX:=X.lt
  have lXg2:=Xg2.lt
  refine ta 8 [zS,zS] 40 (pg) ?_
  intro v7 g8 Xg8 hg8 B
  have hbg8:=Nat.le_trans BB.size hg8
  replace X:=X.keep B
  replace BB:=BB.trans (Chg.of (F:=fun _=>False) B) (fun _ _ k=>k.elim)
  replace LP:=LP.trans (Lp.of B)
  replace Xg2:=Xg2.keep B
  replace Qq3:=Qq3.keep B
  replace Qq5:=Qq5.keep B
  refine ts Xg8 0 (.agg #[.slice aq5 kq5 dq5,.slice bq5 lq5 eq5]) [.slice aq5 kq5 dq5,.slice bq5 lq5 eq5] [.slice aq5 kq5 dq5,.slice bq5 lq5 eq5] ?_
  intro v9 Y' C
  have P:=Lp.z0 Xg8 C (by rfl)
  replace X:=X.chg C (show g≠g8 by omega)
  replace BB:=BB.trans C (fun b hb k=>absurd hb (Nat.not_lt.2 ((show b=g8 from k)▸hbg8)))
  replace LP:=LP.trans P
  replace Xg2:=Xg2.chg C (show g2≠g8 by omega)
  replace Qq3:=Qq3.lp P
  replace Qq5:=Qq5.lp P
  clear C P Xg8
  have Xg8:=Y'
  clear Y'
  refine gl_nil (ge_then (gc_reg (t 13 (pg g) (t 14 (iU v) (t 15 (.func (.func 51) #[] #[pg g8]) (tc 16 50 #[pg g,iU v,.func (.func 51) #[] #[pg g8]] (all_nil X) ?_))))))
  rintro _ v10 ⟨rfl,B⟩
  refine ⟨_,rfl,?_⟩
  replace X:=X.keep B
  replace BB:=BB.trans (Chg.of (F:=fun _=>False) B) (fun _ _ k=>k.elim)
  replace LP:=LP.trans (Lp.of B)
  replace Xg2:=Xg2.keep B
  replace Qq3:=Qq3.keep B
  replace Qq5:=Qq5.keep B
  replace Xg8:=Xg8.keep B
  refine gl_nil (ge_end (.tuple #[]) (rs0 (by kernel_rfl)) ?_)
  exact ⟨(· = g),rfl,.inr ⟨X,rfl,rfl⟩,fun b h=>.inl h,BB,LP⟩
theorem lCut {w:World} {g:Nat} {K:Nat->Prop} {S:St} {L:Nat} {v y z_:Int} (hv:0<=v/\v < 18446744073709551616) (hy:0<=y/\y < 18446744073709551616) (hz:0<=z_/\z_ < 18446744073709551616) (M:Lm w g K S) (hL:Fs S L) (hl:L<=640000) (hn:S.length<=100):Calls Tryz.prog 21 #[pg g,.int .u64 v,.int .u64 y,.int .u64 z_] w fun e w'=>∃ K',e=.returned (.tuple #[])/\Lm w' g K' (sCut S v y z_)/\(∀ b,K' b->K b\/w.heap.size<=b)/\Chg K w w'/\Lp w w':=by
 rcases M with ⟨bm,clock,Ls,X,M,rfl,hU,rfl⟩ | ⟨X,rfl,rfl⟩
 ·have hbm:=lt_of_block M.ob
  have hml:∀ m∈Ls,m.g < w.heap.size:=fun m hm=>(M.blk m hm).lt
  have hgl:=X.lt
  have X0:=X
  have M0:=M
  have hG:=fs_g M hL hl
  have z0:0<=((z_:Int):Rat):=by rw [show ((z_:Int):Rat)=(z_:Rat) / ((1:Int):Rat) by rw [show ((1:Int):Rat)=1 by decide +kernel]; grind]; exact fr_nn hz.1 (by decide)
  have e1:=qv_nn (n:=1) (d:=y) (by decide) hy.1
  have e2:Ft (qv 1 y) 64:=qv_ft (by decide) (by decide) ⟨hy.1,by omega⟩
  have e0:0<=((z_:Int):Rat) * qv 1 y:=Rat.mul_nonneg z0 e1
  have fe:Ft (((z_:Int):Rat) * qv 1 y) 6600:=ft_up (ft_mul (ft_n hz) e2 z0 e1) (by decide)
  have BB:=Below.refl w.heap.size w
  refine gc_enter (n:=18) Tryz.func21 rfl ?_
  clear BB
  have BB:=Chg.refl (LK g bm Ls) w
  have LP:=Lp.refl w
  refine gc_seq (gc_reg (t 9 (iU z_) (tc 10 38 #[iU z_] (nOf (x:=z_) (hz).1 (hz).2) ?_)))
  rintro _ v2 ⟨an1,kn1,dn1,rfl,Nn1,ln1,B⟩
  refine ⟨_,rfl,?_⟩
  replace X:=X.keep B
  replace BB:=BB.trans (Chg.of (F:=fun _=>False) B) (fun _ _ k=>k.elim)
  replace LP:=LP.trans (Lp.of B)
  replace M:=M.keep B
  refine tc 11 37 #[.slice an1 kn1 dn1] (pOfNat (B:=40) Nn1.a (by omega) (by omega) (by omega)) ?_
  rintro _ v4 ⟨aq3,kq3,dq3,bq3,lq3,eq3,rfl,Qq3,B⟩
  refine ⟨_,rfl,?_⟩
  replace X:=X.keep B
  replace BB:=BB.trans (Chg.of (F:=fun _=>False) B) (fun _ _ k=>k.elim)
  replace LP:=LP.trans (Lp.of B)
  replace M:=M.keep B
  replace Nn1:=Nn1.keep B
  refine t 12 (iU y) (tc 13 49 #[.agg #[.slice aq3 kq3 dq3,.slice bq3 lq3 eq3],iU y] (per_any Qq3 (ft_up (ft_n hz) (by decide)) hy) ?_)
  rintro _ v6 ⟨aq5,kq5,dq5,bq5,lq5,eq5,rfl,Qq5,B⟩
  refine ⟨_,rfl,?_⟩
  replace X:=X.keep B
  replace BB:=BB.trans (Chg.of (F:=fun _=>False) B) (fun _ _ k=>k.elim)
  replace LP:=LP.trans (Lp.of B)
  replace M:=M.keep B
  replace Nn1:=Nn1.keep B
  replace Qq3:=Qq3.keep B
  have lX:=X.lt
  refine ta 8 [zS,zS] 40 (pg) ?_
  intro v7 g8 Xg8 hg8 B
  have hbg8:=Nat.le_trans BB.size hg8
  replace X:=X.keep B
  replace BB:=BB.trans (Chg.of (F:=fun _=>False) B) (fun _ _ k=>k.elim)
  replace LP:=LP.trans (Lp.of B)
  replace M:=M.keep B
  replace Nn1:=Nn1.keep B
  replace Qq3:=Qq3.keep B
  replace Qq5:=Qq5.keep B
  refine ts Xg8 0 (.agg #[.slice aq5 kq5 dq5,.slice bq5 lq5 eq5]) [.slice aq5 kq5 dq5,.slice bq5 lq5 eq5] [.slice aq5 kq5 dq5,.slice bq5 lq5 eq5] ?_
  intro v9 Y' C
  have P:=Lp.z0 Xg8 C (by rfl)
  replace X:=X.chg C (show g≠g8 by omega)
  replace BB:=BB.trans C (fun b hb k=>absurd hb (Nat.not_lt.2 ((show b=g8 from k)▸hbg8)))
  replace LP:=LP.trans P
  replace M:=M.off C P (fun e=>absurd hbm (Nat.not_lt.2 ((show bm=g8 from e)▸hbg8))) (fun m hm e=>absurd (hml m hm) (Nat.not_lt.2 ((show m.g=g8 from e)▸hbg8)))
  replace Nn1:=NatO.lp Nn1 P
  replace Qq3:=Qq3.lp P
  replace Qq5:=Qq5.lp P
  clear C P Xg8
  have Xg8:=Y'
  clear Y'
  refine gl_nil (ge_then (gc_reg (t 14 (pg g) (t 15 (iU v) (t 16 (.func (.func 67) #[] #[pg g8]) (tc 17 50 #[pg g,iU v,.func (.func 67) #[] #[pg g8]] (eCut X M Xg8 Qq5 fe e0 rfl hG) ?_))))))
  rintro _ v10 ⟨L2,rfl,X2,M2,hS2,hN2,C,P⟩
  refine ⟨_,rfl,?_⟩
  replace BB:=BB.trans C (fun b _ k=>.inr (.inr k))
  replace LP:=LP.trans P
  clear X M
  have X:=X2
  have M:=M2
  clear X2 M2
  replace Qq3:=Qq3.lp P
  replace Qq5:=Qq5.lp P
  replace Xg8:=Xg8.chg C (fun k=>by obtain ⟨m,hm,e⟩:=k; have:=hml m hm; omega)
  clear C P
  refine gl_nil (ge_end (.tuple #[]) (rs0 (by kernel_rfl)) ?_)
  refine ⟨LK g bm Ls,rfl,.inl ⟨bm,clock,L2,X,M,?_,un_on hU,(LK_n hN2).symm⟩,fun b h=>.inl h,BB,LP⟩
  rw [hS2]
  unfold sCut
  rw [<- qv_one]
 ·have hgl:=X.lt
  have X0:=X
  have z0:0<=((z_:Int):Rat):=by rw [show ((z_:Int):Rat)=(z_:Rat) / ((1:Int):Rat) by rw [show ((1:Int):Rat)=1 by decide +kernel]; grind]; exact fr_nn hz.1 (by decide)
  have e1:=qv_nn (n:=1) (d:=y) (by decide) hy.1
  have e2:Ft (qv 1 y) 64:=qv_ft (by decide) (by decide) ⟨hy.1,by omega⟩
  have e0:0<=((z_:Int):Rat) * qv 1 y:=Rat.mul_nonneg z0 e1
  have fe:Ft (((z_:Int):Rat) * qv 1 y) 6600:=ft_up (ft_mul (ft_n hz) e2 z0 e1) (by decide)
  have BB:=Below.refl w.heap.size w
  refine gc_enter (n:=18) Tryz.func21 rfl ?_
  clear BB
  have BB:=Chg.refl (fun b=>b=g) w
  have LP:=Lp.refl w
  refine gc_seq (gc_reg (t 9 (iU z_) (tc 10 38 #[iU z_] (nOf (x:=z_) (hz).1 (hz).2) ?_)))
  rintro _ v2 ⟨an1,kn1,dn1,rfl,Nn1,ln1,B⟩
  refine ⟨_,rfl,?_⟩
  replace X:=X.keep B
  replace BB:=BB.trans (Chg.of (F:=fun _=>False) B) (fun _ _ k=>k.elim)
  replace LP:=LP.trans (Lp.of B)
  refine tc 11 37 #[.slice an1 kn1 dn1] (pOfNat (B:=40) Nn1.a (by omega) (by omega) (by omega)) ?_
  rintro _ v4 ⟨aq3,kq3,dq3,bq3,lq3,eq3,rfl,Qq3,B⟩
  refine ⟨_,rfl,?_⟩
  replace X:=X.keep B
  replace BB:=BB.trans (Chg.of (F:=fun _=>False) B) (fun _ _ k=>k.elim)
  replace LP:=LP.trans (Lp.of B)
  replace Nn1:=Nn1.keep B
  refine t 12 (iU y) (tc 13 49 #[.agg #[.slice aq3 kq3 dq3,.slice bq3 lq3 eq3],iU y] (per_any Qq3 (ft_up (ft_n hz) (by decide)) hy) ?_)
  rintro _ v6 ⟨aq5,kq5,dq5,bq5,lq5,eq5,rfl,Qq5,B⟩
  refine ⟨_,rfl,?_⟩
  replace X:=X.keep B
  replace BB:=BB.trans (Chg.of (F:=fun _=>False) B) (fun _ _ k=>k.elim)
  replace LP:=LP.trans (Lp.of B)
  replace Nn1:=Nn1.keep B
  replace Qq3:=Qq3.keep B
  have lX:=X.lt
  refine ta 8 [zS,zS] 40 (pg) ?_
  intro v7 g8 Xg8 hg8 B
  have hbg8:=Nat.le_trans BB.size hg8
  replace X:=X.keep B
  replace BB:=BB.trans (Chg.of (F:=fun _=>False) B) (fun _ _ k=>k.elim)
  replace LP:=LP.trans (Lp.of B)
  replace Nn1:=Nn1.keep B
  replace Qq3:=Qq3.keep B
  replace Qq5:=Qq5.keep B
  refine ts Xg8 0 (.agg #[.slice aq5 kq5 dq5,.slice bq5 lq5 eq5]) [.slice aq5 kq5 dq5,.slice bq5 lq5 eq5] [.slice aq5 kq5 dq5,.slice bq5 lq5 eq5] ?_
  intro v9 Y' C
  have P:=Lp.z0 Xg8 C (by rfl)
  replace X:=X.chg C (show g≠g8 by omega)
  replace BB:=BB.trans C (fun b hb k=>absurd hb (Nat.not_lt.2 ((show b=g8 from k)▸hbg8)))
  replace LP:=LP.trans P
  replace Nn1:=NatO.lp Nn1 P
  replace Qq3:=Qq3.lp P
  replace Qq5:=Qq5.lp P
  clear C P Xg8
  have Xg8:=Y'
  clear Y'
  refine gl_nil (ge_then (gc_reg (t 14 (pg g) (t 15 (iU v) (t 16 (.func (.func 67) #[] #[pg g8]) (tc 17 50 #[pg g,iU v,.func (.func 67) #[] #[pg g8]] (all_nil X) ?_))))))
  rintro _ v10 ⟨rfl,B⟩
  refine ⟨_,rfl,?_⟩
  replace X:=X.keep B
  replace BB:=BB.trans (Chg.of (F:=fun _=>False) B) (fun _ _ k=>k.elim)
  replace LP:=LP.trans (Lp.of B)
  replace Nn1:=Nn1.keep B
  replace Qq3:=Qq3.keep B
  replace Qq5:=Qq5.keep B
  replace Xg8:=Xg8.keep B
  refine gl_nil (ge_end (.tuple #[]) (rs0 (by kernel_rfl)) ?_)
  exact ⟨(· = g),rfl,.inr ⟨X,rfl,rfl⟩,fun b h=>.inl h,BB,LP⟩
theorem lStake {w:World} {g:Nat} {K:Nat->Prop} {S:St} {L:Nat} {v d:Int} (hv:0<=v/\v < 18446744073709551616) (hd:0<=d/\d < 18446744073709551616) (M:Lm w g K S) (hL:Fs S L) (hl:L<=640000) (hn:S.length<=100):Calls Tryz.prog 23 #[pg g,.int .u64 v,.int .u64 d] w fun e w'=>∃ a n c b m d_,e=.returned (.agg #[.slice a n c,.slice b m d_])/\RQ w' a n c b m d_ (sWorth S v d)/\Below w.heap.size w w':=by
 rcases M with ⟨bm,clock,Ls,X,M,rfl,hU,rfl⟩ | ⟨X,rfl,rfl⟩
 ·have hbm:=lt_of_block M.ob
  have hml:∀ m∈Ls,m.g < w.heap.size:=fun m hm=>(M.blk m hm).lt
  have hgl:=X.lt
  have X0:=X
  have M0:=M
  have hG:=fs_g M hL hl
  rcases fndL Ls v d with hno | ⟨A,m,B,rfl,hy,hA⟩
  ·have BB:=Below.refl w.heap.size w
   refine gc_enter (n:=25) Tryz.func23 rfl ?_
   clear BB
   have BB:=Chg.refl (fun _=>False) w
   have LP:=Lp.refl w
   refine gc_seq (gc_reg ?_)
   have lX:=X.lt
   refine ta 6 [zS,zS] 40 (pg) ?_
   intro v1 g2 Xg2 hg2 B
   have hbg2:=Nat.le_trans BB.size hg2
   replace X:=X.keep B
   replace BB:=BB.trans (Chg.of (F:=fun _=>False) B) (fun _ _ k=>k.elim)
   replace LP:=LP.trans (Lp.of B)
   replace M:=M.keep B
   refine gl_nil (ge_then (gc_seq (gc_reg (t 8 (pg g) (t 9 (pg g) (t 10 (pg g) (tl 11 (.map (some bm)) X 0 (t 12 (iU v) (t 13 (iU d) (t 14 (.agg #[iU v,iU d]) (tr 15 (.pointer none) (run_lkN M.ob (fm_N hno)) (t 7 (.pointer none) (gl_nil (ge_then (gc_fr [(6,pg g2),(7,.pointer none)] (gc_seq (gc_seq (gc_reg (t 16 (.pointer none) (t 17 (bT) (gl_nil (ge_then (gc_yes (gc_seq (gc_reg (tc 18 58 #[zS] (pSum0) ?_))))))))))))))))))))))))))
   rintro _ v4 ⟨aq3,kq3,dq3,bq3,lq3,eq3,rfl,Qq3,B⟩
   refine ⟨_,rfl,?_⟩
   replace X:=X.keep B
   replace BB:=BB.trans (Chg.of (F:=fun _=>False) B) (fun _ _ k=>k.elim)
   replace LP:=LP.trans (Lp.of B)
   replace M:=M.keep B
   replace Xg2:=Xg2.keep B
   refine ts Xg2 0 (.agg #[.slice aq3 kq3 dq3,.slice bq3 lq3 eq3]) [.slice aq3 kq3 dq3,.slice bq3 lq3 eq3] [.slice aq3 kq3 dq3,.slice bq3 lq3 eq3] ?_
   intro v5 Y' C
   have P:=Lp.z0 Xg2 C (by rfl)
   replace X:=X.chg C (show g≠g2 by omega)
   replace BB:=BB.trans C (fun b hb k=>absurd hb (Nat.not_lt.2 ((show b=g2 from k)▸hbg2)))
   replace LP:=LP.trans P
   replace M:=M.off C P (fun e=>absurd hbm (Nat.not_lt.2 ((show bm=g2 from e)▸hbg2))) (fun m hm e=>absurd (hml m hm) (Nat.not_lt.2 ((show m.g=g2 from e)▸hbg2)))
   replace Qq3:=Qq3.lp P
   clear C P Xg2
   have Xg2:=Y'
   clear Y'
   refine gl_nil (ge_then (gc_ret (ge_tr (ge_ret (.agg #[.slice aq3 kq3 dq3,.slice bq3 lq3 eq3]) (rsc 6 (T:=40) (by kernel_rfl) (by kernel_rfl) (lr Xg2 0)) ?_))))
   exact ⟨aq3,kq3,dq3,bq3,lq3,eq3,rfl,Qq3.is (by unfold sWorth; rw [get_N hno]),BB.nothing⟩
  ·obtain ⟨mv,md,mg,mb,⟨wa,wn,wc,wb,wm,wd⟩,⟨oa,on,oc,ob,om,od⟩,mr,mo,mp,mk⟩:=m
   have hmem:(⟨mv,md,mg,mb,(wa,wn,wc,wb,wm,wd),(oa,on,oc,ob,om,od),mr,mo,mp,mk⟩:Ms)∈A ++ (⟨mv,md,mg,mb,(wa,wn,wc,wb,wm,wd),(oa,on,oc,ob,om,od),mr,mo,mp,mk⟩:Ms) :: B:=by simp
   have BB:=Below.refl w.heap.size w
   refine gc_enter (n:=25) Tryz.func23 rfl ?_
   clear BB
   have BB:=Chg.refl (fun _=>False) w
   have LP:=Lp.refl w
   have XM:Blk _ mg [.slice wa wn wc,.slice wb wm wd,.slice oa on oc,.slice ob om od,iI mp,iI mk] 79:=M.blk _ hmem
   have QW:RZ _ wa wn wc wb wm wd mr:=(M.q _ hmem).1
   have QO:RZ _ oa on oc ob om od mo:=(M.q _ hmem).2
   refine gc_seq (gc_reg ?_)
   have lX:=X.lt
   have lXM:=XM.lt
   refine ta 6 [zS,zS] 40 (pg) ?_
   intro v1 g2 Xg2 hg2 B
   have hbg2:=Nat.le_trans BB.size hg2
   replace X:=X.keep B
   replace BB:=BB.trans (Chg.of (F:=fun _=>False) B) (fun _ _ k=>k.elim)
   replace LP:=LP.trans (Lp.of B)
   replace M:=M.keep B
   replace XM:=XM.keep B
   replace QW:=QW.keep B
   replace QO:=QO.keep B
   refine gl_nil (ge_then (gc_seq (gc_reg (t 8 (pg g) (t 9 (pg g) (t 10 (pg g) (tl 11 (.map (some bm)) X 0 (t 12 (iU v) (t 13 (iU d) (t 14 (.agg #[iU v,iU d]) (tr 15 (pg mg) (run_lkY mg M.ob (fm_Y hy hA)) (t 7 (pg mg) (gl_nil (ge_then (gc_fr [(6,pg g2),(7,pg mg)] (gc_seq (gc_seq (gc_reg (t 16 (pg mg) (t 17 (bF) (gl_nil (ge_then (gc_no (gc_skip (ge_then (gc_seq (gc_reg (t 19 (pg mg) (t 20 (pg mg) (t 21 (pg mg) (tlr 22 [.slice wa wn wc,.slice wb wm wd] XM 0 ?_)))))))))))))))))))))))))))))))
   have lX:=X.lt
   have lXM:=XM.lt
   have lXg2:=Xg2.lt
   refine ta 23 [.slice wa wn wc,.slice wb wm wd] 40 (sg 1) ?_
   intro v3 g4 Xg4 hg4 B
   have hbg4:=Nat.le_trans BB.size hg4
   replace X:=X.keep B
   replace BB:=BB.trans (Chg.of (F:=fun _=>False) B) (fun _ _ k=>k.elim)
   replace LP:=LP.trans (Lp.of B)
   replace M:=M.keep B
   replace XM:=XM.keep B
   replace QW:=QW.keep B
   replace QO:=QO.keep B
   replace Xg2:=Xg2.keep B
   refine tc 24 58 #[sg 1 g4] (pSum1 (B:=10000) (v:=(wa,wn,wc,wb,wm,wd)) Xg4 QW (hG _ hmem).1.2 (by decide)) ?_
   rintro _ v6 ⟨aq5,kq5,dq5,bq5,lq5,eq5,rfl,Qq5,B⟩
   refine ⟨_,rfl,?_⟩
   replace X:=X.keep B
   replace BB:=BB.trans (Chg.of (F:=fun _=>False) B) (fun _ _ k=>k.elim)
   replace LP:=LP.trans (Lp.of B)
   replace M:=M.keep B
   replace XM:=XM.keep B
   replace QW:=QW.keep B
   replace QO:=QO.keep B
   replace Xg2:=Xg2.keep B
   replace Xg4:=Xg4.keep B
   refine ts Xg2 0 (.agg #[.slice aq5 kq5 dq5,.slice bq5 lq5 eq5]) [.slice aq5 kq5 dq5,.slice bq5 lq5 eq5] [.slice aq5 kq5 dq5,.slice bq5 lq5 eq5] ?_
   intro v7 Y' C
   have P:=Lp.z0 Xg2 C (by rfl)
   replace X:=X.chg C (show g≠g2 by omega)
   replace BB:=BB.trans C (fun b hb k=>absurd hb (Nat.not_lt.2 ((show b=g2 from k)▸hbg2)))
   replace LP:=LP.trans P
   replace M:=M.off C P (fun e=>absurd hbm (Nat.not_lt.2 ((show bm=g2 from e)▸hbg2))) (fun m hm e=>absurd (hml m hm) (Nat.not_lt.2 ((show m.g=g2 from e)▸hbg2)))
   replace XM:=XM.chg C (show mg≠g2 by omega)
   replace QW:=QW.lp P
   replace QO:=QO.lp P
   replace Xg4:=Xg4.chg C (show g4≠g2 by omega)
   replace Qq5:=Qq5.lp P
   clear C P Xg2
   have Xg2:=Y'
   clear Y'
   refine gl_nil (ge_then (gc_ret (ge_ret (.agg #[.slice aq5 kq5 dq5,.slice bq5 lq5 eq5]) (rsc 6 (T:=40) (by kernel_rfl) (by kernel_rfl) (lr Xg2 0)) ?_)))
   exact ⟨aq5,kq5,dq5,bq5,lq5,eq5,rfl,Qq5.is (by unfold sWorth; rw [get_Y hy hA]),BB.nothing⟩
 ·have hgl:=X.lt
  have X0:=X
  have BB:=Below.refl w.heap.size w
  refine gc_enter (n:=25) Tryz.func23 rfl ?_
  clear BB
  have BB:=Chg.refl (fun _=>False) w
  have LP:=Lp.refl w
  refine gc_seq (gc_reg ?_)
  have lX:=X.lt
  refine ta 6 [zS,zS] 40 (pg) ?_
  intro v1 g2 Xg2 hg2 B
  have hbg2:=Nat.le_trans BB.size hg2
  replace X:=X.keep B
  replace BB:=BB.trans (Chg.of (F:=fun _=>False) B) (fun _ _ k=>k.elim)
  replace LP:=LP.trans (Lp.of B)
  refine gl_nil (ge_then (gc_seq (gc_reg (t 8 (pg g) (t 9 (pg g) (t 10 (pg g) (tl 11 (.map none) X 0 (t 12 (iU v) (t 13 (iU d) (t 14 (.agg #[iU v,iU d]) (tr 15 (.pointer none) (run_lk0 (v:=v) (d:=d)) (t 7 (.pointer none) (gl_nil (ge_then (gc_fr [(6,pg g2),(7,.pointer none)] (gc_seq (gc_seq (gc_reg (t 16 (.pointer none) (t 17 (bT) (gl_nil (ge_then (gc_yes (gc_seq (gc_reg (tc 18 58 #[zS] (pSum0) ?_))))))))))))))))))))))))))
  rintro _ v4 ⟨aq3,kq3,dq3,bq3,lq3,eq3,rfl,Qq3,B⟩
  refine ⟨_,rfl,?_⟩
  replace X:=X.keep B
  replace BB:=BB.trans (Chg.of (F:=fun _=>False) B) (fun _ _ k=>k.elim)
  replace LP:=LP.trans (Lp.of B)
  replace Xg2:=Xg2.keep B
  refine ts Xg2 0 (.agg #[.slice aq3 kq3 dq3,.slice bq3 lq3 eq3]) [.slice aq3 kq3 dq3,.slice bq3 lq3 eq3] [.slice aq3 kq3 dq3,.slice bq3 lq3 eq3] ?_
  intro v5 Y' C
  have P:=Lp.z0 Xg2 C (by rfl)
  replace X:=X.chg C (show g≠g2 by omega)
  replace BB:=BB.trans C (fun b hb k=>absurd hb (Nat.not_lt.2 ((show b=g2 from k)▸hbg2)))
  replace LP:=LP.trans P
  replace Qq3:=Qq3.lp P
  clear C P Xg2
  have Xg2:=Y'
  clear Y'
  refine gl_nil (ge_then (gc_ret (ge_tr (ge_ret (.agg #[.slice aq3 kq3 dq3,.slice bq3 lq3 eq3]) (rsc 6 (T:=40) (by kernel_rfl) (by kernel_rfl) (lr Xg2 0)) ?_))))
  exact ⟨aq3,kq3,dq3,bq3,lq3,eq3,rfl,Qq3.is (by rfl),BB.nothing⟩
theorem lOwed {w:World} {g:Nat} {K:Nat->Prop} {S:St} {L:Nat} {v d:Int} (hv:0<=v/\v < 18446744073709551616) (hd:0<=d/\d < 18446744073709551616) (M:Lm w g K S) (hL:Fs S L) (hl:L<=640000) (hn:S.length<=100):Calls Tryz.prog 25 #[pg g,.int .u64 v,.int .u64 d] w fun e w'=>∃ a n c b m d_,e=.returned (.agg #[.slice a n c,.slice b m d_])/\RQ w' a n c b m d_ (sOwed S v d)/\Below w.heap.size w w':=by
 rcases M with ⟨bm,clock,Ls,X,M,rfl,hU,rfl⟩ | ⟨X,rfl,rfl⟩
 ·have hbm:=lt_of_block M.ob
  have hml:∀ m∈Ls,m.g < w.heap.size:=fun m hm=>(M.blk m hm).lt
  have hgl:=X.lt
  have X0:=X
  have M0:=M
  have hG:=fs_g M hL hl
  rcases fndL Ls v d with hno | ⟨A,m,B,rfl,hy,hA⟩
  ·have BB:=Below.refl w.heap.size w
   refine gc_enter (n:=25) Tryz.func25 rfl ?_
   clear BB
   have BB:=Chg.refl (fun _=>False) w
   have LP:=Lp.refl w
   refine gc_seq (gc_reg ?_)
   have lX:=X.lt
   refine ta 6 [zS,zS] 40 (pg) ?_
   intro v1 g2 Xg2 hg2 B
   have hbg2:=Nat.le_trans BB.size hg2
   replace X:=X.keep B
   replace BB:=BB.trans (Chg.of (F:=fun _=>False) B) (fun _ _ k=>k.elim)
   replace LP:=LP.trans (Lp.of B)
   replace M:=M.keep B
   refine gl_nil (ge_then (gc_seq (gc_reg (t 8 (pg g) (t 9 (pg g) (t 10 (pg g) (tl 11 (.map (some bm)) X 0 (t 12 (iU v) (t 13 (iU d) (t 14 (.agg #[iU v,iU d]) (tr 15 (.pointer none) (run_lkN M.ob (fm_N hno)) (t 7 (.pointer none) (gl_nil (ge_then (gc_fr [(6,pg g2),(7,.pointer none)] (gc_seq (gc_seq (gc_reg (t 16 (.pointer none) (t 17 (bT) (gl_nil (ge_then (gc_yes (gc_seq (gc_reg (tc 18 58 #[zS] (pSum0) ?_))))))))))))))))))))))))))
   rintro _ v4 ⟨aq3,kq3,dq3,bq3,lq3,eq3,rfl,Qq3,B⟩
   refine ⟨_,rfl,?_⟩
   replace X:=X.keep B
   replace BB:=BB.trans (Chg.of (F:=fun _=>False) B) (fun _ _ k=>k.elim)
   replace LP:=LP.trans (Lp.of B)
   replace M:=M.keep B
   replace Xg2:=Xg2.keep B
   refine ts Xg2 0 (.agg #[.slice aq3 kq3 dq3,.slice bq3 lq3 eq3]) [.slice aq3 kq3 dq3,.slice bq3 lq3 eq3] [.slice aq3 kq3 dq3,.slice bq3 lq3 eq3] ?_
   intro v5 Y' C
   have P:=Lp.z0 Xg2 C (by rfl)
   replace X:=X.chg C (show g≠g2 by omega)
   replace BB:=BB.trans C (fun b hb k=>absurd hb (Nat.not_lt.2 ((show b=g2 from k)▸hbg2)))
   replace LP:=LP.trans P
   replace M:=M.off C P (fun e=>absurd hbm (Nat.not_lt.2 ((show bm=g2 from e)▸hbg2))) (fun m hm e=>absurd (hml m hm) (Nat.not_lt.2 ((show m.g=g2 from e)▸hbg2)))
   replace Qq3:=Qq3.lp P
   clear C P Xg2
   have Xg2:=Y'
   clear Y'
   refine gl_nil (ge_then (gc_ret (ge_tr (ge_ret (.agg #[.slice aq3 kq3 dq3,.slice bq3 lq3 eq3]) (rsc 6 (T:=40) (by kernel_rfl) (by kernel_rfl) (lr Xg2 0)) ?_))))
   exact ⟨aq3,kq3,dq3,bq3,lq3,eq3,rfl,Qq3.is (by unfold sOwed; rw [get_N hno]),BB.nothing⟩
  ·obtain ⟨mv,md,mg,mb,⟨wa,wn,wc,wb,wm,wd⟩,⟨oa,on,oc,ob,om,od⟩,mr,mo,mp,mk⟩:=m
   have hmem:(⟨mv,md,mg,mb,(wa,wn,wc,wb,wm,wd),(oa,on,oc,ob,om,od),mr,mo,mp,mk⟩:Ms)∈A ++ (⟨mv,md,mg,mb,(wa,wn,wc,wb,wm,wd),(oa,on,oc,ob,om,od),mr,mo,mp,mk⟩:Ms) :: B:=by simp
   have BB:=Below.refl w.heap.size w
   refine gc_enter (n:=25) Tryz.func25 rfl ?_
   clear BB
   have BB:=Chg.refl (fun _=>False) w
   have LP:=Lp.refl w
   have XM:Blk _ mg [.slice wa wn wc,.slice wb wm wd,.slice oa on oc,.slice ob om od,iI mp,iI mk] 79:=M.blk _ hmem
   have QW:RZ _ wa wn wc wb wm wd mr:=(M.q _ hmem).1
   have QO:RZ _ oa on oc ob om od mo:=(M.q _ hmem).2
   refine gc_seq (gc_reg ?_)
   have lX:=X.lt
   have lXM:=XM.lt
   refine ta 6 [zS,zS] 40 (pg) ?_
   intro v1 g2 Xg2 hg2 B
   have hbg2:=Nat.le_trans BB.size hg2
   replace X:=X.keep B
   replace BB:=BB.trans (Chg.of (F:=fun _=>False) B) (fun _ _ k=>k.elim)
   replace LP:=LP.trans (Lp.of B)
   replace M:=M.keep B
   replace XM:=XM.keep B
   replace QW:=QW.keep B
   replace QO:=QO.keep B
   refine gl_nil (ge_then (gc_seq (gc_reg (t 8 (pg g) (t 9 (pg g) (t 10 (pg g) (tl 11 (.map (some bm)) X 0 (t 12 (iU v) (t 13 (iU d) (t 14 (.agg #[iU v,iU d]) (tr 15 (pg mg) (run_lkY mg M.ob (fm_Y hy hA)) (t 7 (pg mg) (gl_nil (ge_then (gc_fr [(6,pg g2),(7,pg mg)] (gc_seq (gc_seq (gc_reg (t 16 (pg mg) (t 17 (bF) (gl_nil (ge_then (gc_no (gc_skip (ge_then (gc_seq (gc_reg (t 19 (pg mg) (t 20 (pg mg) (t 21 (pq mg 2) (tlr 22 [.slice oa on oc,.slice ob om od] XM 2 ?_)))))))))))))))))))))))))))))))
   have lX:=X.lt
   have lXM:=XM.lt
   have lXg2:=Xg2.lt
   refine ta 23 [.slice oa on oc,.slice ob om od] 40 (sg 1) ?_
   intro v3 g4 Xg4 hg4 B
   have hbg4:=Nat.le_trans BB.size hg4
   replace X:=X.keep B
   replace BB:=BB.trans (Chg.of (F:=fun _=>False) B) (fun _ _ k=>k.elim)
   replace LP:=LP.trans (Lp.of B)
   replace M:=M.keep B
   replace XM:=XM.keep B
   replace QW:=QW.keep B
   replace QO:=QO.keep B
   replace Xg2:=Xg2.keep B
   refine tc 24 58 #[sg 1 g4] (pSum1 (B:=10000) (v:=(oa,on,oc,ob,om,od)) Xg4 QO (hG _ hmem).2.1 (by decide)) ?_
   rintro _ v6 ⟨aq5,kq5,dq5,bq5,lq5,eq5,rfl,Qq5,B⟩
   refine ⟨_,rfl,?_⟩
   replace X:=X.keep B
   replace BB:=BB.trans (Chg.of (F:=fun _=>False) B) (fun _ _ k=>k.elim)
   replace LP:=LP.trans (Lp.of B)
   replace M:=M.keep B
   replace XM:=XM.keep B
   replace QW:=QW.keep B
   replace QO:=QO.keep B
   replace Xg2:=Xg2.keep B
   replace Xg4:=Xg4.keep B
   refine ts Xg2 0 (.agg #[.slice aq5 kq5 dq5,.slice bq5 lq5 eq5]) [.slice aq5 kq5 dq5,.slice bq5 lq5 eq5] [.slice aq5 kq5 dq5,.slice bq5 lq5 eq5] ?_
   intro v7 Y' C
   have P:=Lp.z0 Xg2 C (by rfl)
   replace X:=X.chg C (show g≠g2 by omega)
   replace BB:=BB.trans C (fun b hb k=>absurd hb (Nat.not_lt.2 ((show b=g2 from k)▸hbg2)))
   replace LP:=LP.trans P
   replace M:=M.off C P (fun e=>absurd hbm (Nat.not_lt.2 ((show bm=g2 from e)▸hbg2))) (fun m hm e=>absurd (hml m hm) (Nat.not_lt.2 ((show m.g=g2 from e)▸hbg2)))
   replace XM:=XM.chg C (show mg≠g2 by omega)
   replace QW:=QW.lp P
   replace QO:=QO.lp P
   replace Xg4:=Xg4.chg C (show g4≠g2 by omega)
   replace Qq5:=Qq5.lp P
   clear C P Xg2
   have Xg2:=Y'
   clear Y'
   refine gl_nil (ge_then (gc_ret (ge_ret (.agg #[.slice aq5 kq5 dq5,.slice bq5 lq5 eq5]) (rsc 6 (T:=40) (by kernel_rfl) (by kernel_rfl) (lr Xg2 0)) ?_)))
   exact ⟨aq5,kq5,dq5,bq5,lq5,eq5,rfl,Qq5.is (by unfold sOwed; rw [get_Y hy hA]),BB.nothing⟩
 ·have hgl:=X.lt
  have X0:=X
  have BB:=Below.refl w.heap.size w
  refine gc_enter (n:=25) Tryz.func25 rfl ?_
  clear BB
  have BB:=Chg.refl (fun _=>False) w
  have LP:=Lp.refl w
  refine gc_seq (gc_reg ?_)
  have lX:=X.lt
  refine ta 6 [zS,zS] 40 (pg) ?_
  intro v1 g2 Xg2 hg2 B
  have hbg2:=Nat.le_trans BB.size hg2
  replace X:=X.keep B
  replace BB:=BB.trans (Chg.of (F:=fun _=>False) B) (fun _ _ k=>k.elim)
  replace LP:=LP.trans (Lp.of B)
  refine gl_nil (ge_then (gc_seq (gc_reg (t 8 (pg g) (t 9 (pg g) (t 10 (pg g) (tl 11 (.map none) X 0 (t 12 (iU v) (t 13 (iU d) (t 14 (.agg #[iU v,iU d]) (tr 15 (.pointer none) (run_lk0 (v:=v) (d:=d)) (t 7 (.pointer none) (gl_nil (ge_then (gc_fr [(6,pg g2),(7,.pointer none)] (gc_seq (gc_seq (gc_reg (t 16 (.pointer none) (t 17 (bT) (gl_nil (ge_then (gc_yes (gc_seq (gc_reg (tc 18 58 #[zS] (pSum0) ?_))))))))))))))))))))))))))
  rintro _ v4 ⟨aq3,kq3,dq3,bq3,lq3,eq3,rfl,Qq3,B⟩
  refine ⟨_,rfl,?_⟩
  replace X:=X.keep B
  replace BB:=BB.trans (Chg.of (F:=fun _=>False) B) (fun _ _ k=>k.elim)
  replace LP:=LP.trans (Lp.of B)
  replace Xg2:=Xg2.keep B
  refine ts Xg2 0 (.agg #[.slice aq3 kq3 dq3,.slice bq3 lq3 eq3]) [.slice aq3 kq3 dq3,.slice bq3 lq3 eq3] [.slice aq3 kq3 dq3,.slice bq3 lq3 eq3] ?_
  intro v5 Y' C
  have P:=Lp.z0 Xg2 C (by rfl)
  replace X:=X.chg C (show g≠g2 by omega)
  replace BB:=BB.trans C (fun b hb k=>absurd hb (Nat.not_lt.2 ((show b=g2 from k)▸hbg2)))
  replace LP:=LP.trans P
  replace Qq3:=Qq3.lp P
  clear C P Xg2
  have Xg2:=Y'
  clear Y'
  refine gl_nil (ge_then (gc_ret (ge_tr (ge_ret (.agg #[.slice aq3 kq3 dq3,.slice bq3 lq3 eq3]) (rsc 6 (T:=40) (by kernel_rfl) (by kernel_rfl) (lr Xg2 0)) ?_))))
  exact ⟨aq3,kq3,dq3,bq3,lq3,eq3,rfl,Qq3.is (by rfl),BB.nothing⟩
theorem lDrop {w:World} {g:Nat} {K:Nat->Prop} {S:St} {L:Nat} {v d:Int} (hv:0<=v/\v < 18446744073709551616) (hd:0<=d/\d < 18446744073709551616) (M:Lm w g K S) (hL:Fs S L) (hl:L<=640000) (hn:S.length<=100):Calls Tryz.prog 19 #[pg g,.int .u64 v,.int .u64 d] w fun e w'=>∃ K',e=.returned (.tuple #[])/\Lm w' g K' (sDrop S v d)/\(∀ b,K' b->K b\/w.heap.size<=b)/\Chg K w w'/\Lp w w':=by
 rcases M with ⟨bm,clock,Ls,X,M,rfl,hU,rfl⟩ | ⟨X,rfl,rfl⟩
 ·have hbm:=lt_of_block M.ob
  have hml:∀ m∈Ls,m.g < w.heap.size:=fun m hm=>(M.blk m hm).lt
  have hgl:=X.lt
  have X0:=X
  have M0:=M
  rcases fndL Ls v d with hno | ⟨A,m,B,rfl,hy,hA⟩
  ·have BB:=Below.refl w.heap.size w
   refine gc_enter (n:=13) Tryz.func19 rfl ?_
   clear BB
   have BB:=Chg.refl (LK g bm Ls) w
   have LP:=Lp.refl w
   refine gc_reg (t 6 (pg g) (t 7 (pg g) (t 8 (pg g) (tl 9 (.map (some bm)) X 0 (t 10 (iU v) (t 11 (iU d) (t 12 (.agg #[iU v,iU d]) (tdel (v:=v) (d:=d) (L':=(Ls).map Ms.n) M.ob (by rw [fm_N hno]) ?_))))))))
   intro v1 hob C
   have P:=M.lpm C
   replace X:=X.chg C (M.ne X (by decide)).1.symm
   replace BB:=BB.trans C (fun b _ k=>.inr (.inl k))
   replace LP:=LP.trans P
   replace M:=M.re C hob
   refine gl_nil (ge_end (.tuple #[]) (rs0 (by kernel_rfl)) ?_)
   exact ⟨LK g bm Ls,rfl,.inl ⟨bm,clock,Ls,X,M,drop_non hno,un_drop hU,rfl⟩,fun b h=>.inl h,BB,LP⟩
  ·obtain ⟨mv,md,mg,mb,⟨wa,wn,wc,wb,wm,wd⟩,⟨oa,on,oc,ob,om,od⟩,mr,mo,mp,mk⟩:=m
   have hmem:(⟨mv,md,mg,mb,(wa,wn,wc,wb,wm,wd),(oa,on,oc,ob,om,od),mr,mo,mp,mk⟩:Ms)∈A ++ (⟨mv,md,mg,mb,(wa,wn,wc,wb,wm,wd),(oa,on,oc,ob,om,od),mr,mo,mp,mk⟩:Ms) :: B:=by simp
   have BB:=Below.refl w.heap.size w
   refine gc_enter (n:=13) Tryz.func19 rfl ?_
   clear BB
   have BB:=Chg.refl (LK g bm (A ++ (⟨mv,md,mg,mb,(wa,wn,wc,wb,wm,wd),(oa,on,oc,ob,om,od),mr,mo,mp,mk⟩:Ms) :: B)) w
   have LP:=Lp.refl w
   refine gc_reg (t 6 (pg g) (t 7 (pg g) (t 8 (pg g) (tl 9 (.map (some bm)) X 0 (t 10 (iU v) (t 11 (iU d) (t 12 (.agg #[iU v,iU d]) (tdel (v:=v) (d:=d) (L':=(A ++ B).map Ms.n) M.ob (by rw [fm_Y hy hA]; exact era_mid) ?_))))))))
   intro v1 hob C
   have P:=M.lpm C
   replace X:=X.chg C (M.ne X (by decide)).1.symm
   replace BB:=BB.trans C (fun b _ k=>.inr (.inl k))
   replace LP:=LP.trans P
   replace M:=M.del C hob
   refine gl_nil (ge_end (.tuple #[]) (rs0 (by kernel_rfl)) ?_)
   exact ⟨LK g bm (A ++ B),rfl,.inl ⟨bm,clock,A ++ B,X,M,(drop_eq hU hy).symm,un_drop hU,rfl⟩,fun b h=>.inl (h.imp id (Or.imp id fun ⟨x,hx,e⟩=>⟨x,by rcases List.mem_append.1 hx with k | k; exact List.mem_append.2 (.inl k); exact List.mem_append.2 (.inr (List.mem_cons_of_mem _ k)),e⟩)),BB,LP⟩
 ·have hgl:=X.lt
  have X0:=X
  have BB:=Below.refl w.heap.size w
  refine gc_enter (n:=13) Tryz.func19 rfl ?_
  clear BB
  have BB:=Chg.refl (fun b=>b=g) w
  have LP:=Lp.refl w
  refine gc_reg (t 6 (pg g) (t 7 (pg g) (t 8 (pg g) (tl 9 (.map none) X 0 (t 10 (iU v) (t 11 (iU d) (t 12 (.agg #[iU v,iU d]) (tdel0 (v:=v) (d:=d) ?_))))))))
  refine gl_nil (ge_end (.tuple #[]) (rs0 (by kernel_rfl)) ?_)
  exact ⟨(· = g),rfl,.inr ⟨X,rfl,rfl⟩,fun b h=>.inl h,BB,LP⟩
theorem lSettle {w:World} {g:Nat} {K:Nat->Prop} {S:St} {L:Nat} {v d:Int} (hv:0<=v/\v < 18446744073709551616) (hd:0<=d/\d < 18446744073709551616) (M:Lm w g K S) (hL:Fs S L) (hl:L<=640000) (hn:S.length<=100):Calls Tryz.prog 14 #[pg g,.int .u64 v,.int .u64 d] w fun e w'=>∃ a n c b m d_ K',e=.returned (.tuple #[.agg #[.slice a n c,.slice b m d_],.int .i64 (sTold (sTick S v) v d).2.1,.int .i64 (sTold (sTick S v) v d).2.2])/\RQ w' a n c b m d_ (sTold (sTick S v) v d).1/\Lm w' g K' (sClear (sTick S v) v d)/\(∀ b,K' b->K b\/w.heap.size<=b)/\Chg K w w'/\Lp w w':=by
 rcases M with ⟨bm,clock,Ls,X,M,rfl,hU,rfl⟩ | ⟨X,rfl,rfl⟩
 ·have hbm:=lt_of_block M.ob
  have hml:∀ m∈Ls,m.g < w.heap.size:=fun m hm=>(M.blk m hm).lt
  have hgl:=X.lt
  have X0:=X
  have M0:=M
  have hG:=fs_g M hL hl
  have BB:=Below.refl w.heap.size w
  refine gc_enter (n:=41) Tryz.func14 rfl ?_
  clear BB
  have BB:=Chg.refl (LK g bm Ls) w
  have LP:=Lp.refl w
  refine gc_seq (gc_reg ?_)
  have lX:=X.lt
  refine ta 6 [zS,zS] 40 (pg) ?_
  intro v1 g2 Xg2 hg2 B
  have hbg2:=Nat.le_trans BB.size hg2
  replace X:=X.keep B
  replace BB:=BB.trans (Chg.of (F:=fun _=>False) B) (fun _ _ k=>k.elim)
  replace LP:=LP.trans (Lp.of B)
  replace M:=M.keep B
  clear B
  refine t 7 (iI 0) (t 8 (iI 0) (gl_nil (ge_then (gc_seq (gc_reg (t 11 (pg g) (t 12 (iU v) (tc 13 50 #[pg g,iU v,.func (.func 57) #[] #[]] (eTick X M rfl hG) ?_))))))))
  rintro _ v3 ⟨L2,rfl,X2,M2,hS2,hN2,C,P⟩
  refine ⟨_,rfl,?_⟩
  replace BB:=BB.trans C (fun b _ k=>.inr (.inr k))
  replace LP:=LP.trans P
  clear X M
  have X:=X2
  have M:=M2
  clear X2 M2
  replace Xg2:=Xg2.chg C (fun k=>by obtain ⟨m,hm,e⟩:=k; have:=hml m hm; omega)
  clear C P
  refine gl_nil (ge_then (gc_seq (gc_reg (t 14 (pg g) (t 15 (pg g) (t 16 (pg g) (tl 17 (.map (some bm)) X 0 (t 18 (iU v) (t 19 (iU d) (t 20 (.agg #[iU v,iU d]) ?_))))))))))
  replace hml:∀ m∈L2,m.g < w.heap.size:=n_gs (P:=fun g=>g < w.heap.size) hN2 hml
  rcases fndL L2 v d with hno | ⟨A,m,B,rfl,hy,hA⟩
  ·refine tr 21 (.pointer none) (run_lkN M.ob (fm_N hno)) (t 9 (.pointer none) (gl_nil (ge_then (gc_fr [(6,pg g2),(7,iI 0),(8,iI 0),(9,.pointer none)] (gc_seq (gc_seq (gc_reg (t 22 (.pointer none) (t 23 (bT) (gl_nil (ge_then (gc_yes (gc_seq (gc_reg (tc 24 58 #[zS] (pSum0) ?_)))))))))))))))
   rintro _ v5 ⟨aq4,kq4,dq4,bq4,lq4,eq4,rfl,Qq4,B⟩
   refine ⟨_,rfl,?_⟩
   replace X:=X.keep B
   replace BB:=BB.trans (Chg.of (F:=fun _=>False) B) (fun _ _ k=>k.elim)
   replace LP:=LP.trans (Lp.of B)
   replace M:=M.keep B
   replace Xg2:=Xg2.keep B
   clear B
   refine ts Xg2 0 (.agg #[.slice aq4 kq4 dq4,.slice bq4 lq4 eq4]) [.slice aq4 kq4 dq4,.slice bq4 lq4 eq4] [.slice aq4 kq4 dq4,.slice bq4 lq4 eq4] ?_
   intro v6 Y' C
   have P:=Lp.z0 Xg2 C (by rfl)
   replace X:=X.chg C (show g≠g2 by omega)
   replace BB:=BB.trans C (fun b hb k=>absurd hb (Nat.not_lt.2 ((show b=g2 from k)▸hbg2)))
   replace LP:=LP.trans P
   replace M:=M.off C P (fun e=>absurd hbm (Nat.not_lt.2 ((show bm=g2 from e)▸hbg2))) (fun m hm e=>absurd (hml m hm) (Nat.not_lt.2 ((show m.g=g2 from e)▸hbg2)))
   replace Qq4:=Qq4.lp P
   clear C P Xg2
   have Xg2:=Y'
   clear Y'
   refine t 7 (iI 0) (t 8 (iI 0) (gl_nil (ge_then (gc_ret (ge_tr (ge_ret (.tuple #[.agg #[.slice aq4 kq4 dq4,.slice bq4 lq4 eq4],iI 0,iI 0]) (rsc3 6 7 8 (T:=40) (by kernel_rfl) (by kernel_rfl) (by kernel_rfl) (by kernel_rfl) (lr Xg2 0)) ?_))))))
   have hT:sTold (sTick (Ls.map Ms.s) v) v d=(0,0,0):=by unfold sTold sTick; rw [<- hS2,get_N hno]
   refine ⟨aq4,kq4,dq4,bq4,lq4,eq4,LK g bm Ls,by rw [hT],by rw [hT]; exact Qq4,.inl ⟨bm,clock,L2,X,M,?_,un_at (un_on hU),(LK_n hN2).symm⟩,fun b h=>.inl h,BB,LP⟩
   unfold sClear sTick
   rw [<- hS2]
   exact (at_non hno).symm
  ·obtain ⟨mv,md,mg,mb,⟨wa,wn,wc,wb,wm,wd⟩,⟨oa,on,oc,ob,om,od⟩,mr,mo,mp,mk⟩:=m
   have hmem:(⟨mv,md,mg,mb,(wa,wn,wc,wb,wm,wd),(oa,on,oc,ob,om,od),mr,mo,mp,mk⟩:Ms)∈A ++ (⟨mv,md,mg,mb,(wa,wn,wc,wb,wm,wd),(oa,on,oc,ob,om,od),mr,mo,mp,mk⟩:Ms) :: B:=by simp
   have hKm:LK g bm Ls mg:=by rw [<- LK_n hN2]; exact .inr (.inr ⟨_,hmem,rfl⟩)
   have hXm:g≠mg:=((M.ne X (by decide)).2 _ hmem).symm
   have hmg:=hml _ hmem
   dsimp only at hmg
   have hfo:Ft mo (64 * 10000):=ft_up (tick_o hL hS2 (List.mem_map.2 ⟨_,hmem,rfl⟩)) (by omega)
   have XM:Blk _ mg [.slice wa wn wc,.slice wb wm wd,.slice oa on oc,.slice ob om od,iI mp,iI mk] 79:=M.blk _ hmem
   have QW:RZ _ wa wn wc wb wm wd mr:=(M.q _ hmem).1
   have QO:RZ _ oa on oc ob om od mo:=(M.q _ hmem).2
   refine tr 21 (pg mg) (run_lkY mg M.ob (fm_Y hy hA)) (t 9 (pg mg) (gl_nil (ge_then (gc_fr [(6,pg g2),(7,iI 0),(8,iI 0),(9,pg mg)] (gc_seq (gc_seq (gc_reg (t 22 (pg mg) (t 23 (bF) (gl_nil (ge_then (gc_no (gc_skip (ge_then (gc_seq (gc_reg (t 25 (pg mg) (t 26 (pg mg) (tlr 27 [.slice wa wn wc,.slice wb wm wd,.slice oa on oc,.slice ob om od,iI mp,iI mk] XM 0 ?_)))))))))))))))))))
   have lX:=X.lt
   have lXg2:=Xg2.lt
   have lXM:=XM.lt
   refine ta 10 [zS,zS,zS,zS,iI 0,iI 0] 79 (pg) ?_
   intro v7 g8 Xg8 hg8 B
   have hbg8:=Nat.le_trans BB.size hg8
   replace X:=X.keep B
   replace BB:=BB.trans (Chg.of (F:=fun _=>False) B) (fun _ _ k=>k.elim)
   replace LP:=LP.trans (Lp.of B)
   replace M:=M.keep B
   replace Xg2:=Xg2.keep B
   replace XM:=XM.keep B
   replace QW:=QW.keep B
   replace QO:=QO.keep B
   clear B
   refine ts Xg8 0 (.agg #[.slice wa wn wc,.slice wb wm wd,.slice oa on oc,.slice ob om od,iI mp,iI mk]) [.slice wa wn wc,.slice wb wm wd,.slice oa on oc,.slice ob om od,iI mp,iI mk] [.slice wa wn wc,.slice wb wm wd,.slice oa on oc,.slice ob om od,iI mp,iI mk] ?_
   intro v9 Y' C
   have P:=Lp.z0 Xg8 C (by rfl)
   replace X:=X.chg C (show g≠g8 by omega)
   replace BB:=BB.trans C (fun b hb k=>absurd hb (Nat.not_lt.2 ((show b=g8 from k)▸hbg8)))
   replace LP:=LP.trans P
   replace M:=M.off C P (fun e=>absurd hbm (Nat.not_lt.2 ((show bm=g8 from e)▸hbg8))) (fun m hm e=>absurd (hml m hm) (Nat.not_lt.2 ((show m.g=g8 from e)▸hbg8)))
   replace Xg2:=Xg2.chg C (show g2≠g8 by omega)
   replace XM:=XM.chg C (show mg≠g8 by omega)
   replace QW:=QW.lp P
   replace QO:=QO.lp P
   clear C P Xg8
   have Xg8:=Y'
   clear Y'
   refine gl_nil (ge_then (gc_seq (gc_reg (t 28 (pg mg) (t 29 (pg g8) (tlr 30 [.slice wa wn wc,.slice wb wm wd] Xg8 0 (t 31 (.agg #[.slice wa wn wc,.slice wb wm wd,zS,zS,iI 0,iI 0]) (t 32 (pg mg) (ts XM 0 (.agg #[.slice wa wn wc,.slice wb wm wd,zS,zS,iI 0,iI 0]) [.slice wa wn wc,.slice wb wm wd,zS,zS,iI 0,iI 0] [.slice wa wn wc,.slice wb wm wd,zS,zS,iI 0,iI 0] ?_)))))))))
   intro v10 Y' C
   have P:=Lp.cg XM C (by rfl)
   replace M:=MapL.st (m:=(⟨mv,md,mg,mb,(wa,wn,wc,wb,wm,wd),(oa,on,oc,ob,om,od),mr,mo,mp,mk⟩:Ms)) (A:=A) (B:=B) M (⟨mv,md,mg,mb,(wa,wn,wc,wb,wm,wd),(none,0,0,none,0,0),mr,0,0,0⟩:Ms) rfl Y' C P ((M.q (⟨mv,md,mg,mb,(wa,wn,wc,wb,wm,wd),(oa,on,oc,ob,om,od),mr,mo,mp,mk⟩:Ms) (by simp)).1.lp P) (rz_nil)
   replace hml:∀ m∈A ++ (⟨mv,md,mg,mb,(wa,wn,wc,wb,wm,wd),(none,0,0,none,0,0),mr,0,0,0⟩:Ms) :: B,m.g < w.heap.size:=n_gs (P:=fun g=>g < w.heap.size) (by simp) hml
   replace X:=X.chg C hXm
   replace BB:=BB.trans C (fun b _ k=>(show b=mg from k)▸hKm)
   replace LP:=LP.trans P
   replace Xg2:=Xg2.chg C (show g2≠mg by omega)
   replace QW:=QW.lp P
   replace QO:=QO.lp P
   replace Xg8:=Xg8.chg C (show g8≠mg by omega)
   clear C P XM
   have XM:=Y'
   clear Y'
   refine gl_nil (ge_then (gc_seq ?_))
   replace X:=X.drew
   replace BB:=BB.trans (Chg.of (F:=fun _=>False) (Below.refl _ _).drew) (fun _ _ k=>k.elim)
   replace LP:=LP.trans (Lp.of (Below.refl _ _).drew)
   replace M:=M.keep (Below.refl _ _).drew
   replace Xg2:=Xg2.drew
   replace XM:=XM.drew
   replace QW:=QW.drew
   replace QO:=QO.drew
   replace Xg8:=Xg8.drew
   refine gc_draw (fun w'=>Blk w' g8 [.slice wa wn wc,.slice wb wm wd,.slice oa on oc,.slice ob om od,iI mp,iI mk] 79) (fun _=>false) Xg8 ?_
   refine z 0 33 (pq g8 2) (zlr 1 34 [.slice oa on oc,.slice ob om od] (fun _ h=>h) 2 (z 4 37 (pq g8 4) (zl 5 38 (iI mp) (fun _ h=>h) 4 (z 6 39 (pq g8 5) (zl 7 40 (iI mk) (fun _ h=>h) 5 ?_)))))
   have lX:=X.lt
   have lXg2:=Xg2.lt
   have lXM:=XM.lt
   have lXg8:=Xg8.lt
   refine za 2 35 [.slice oa on oc,.slice ob om od] 40 (sg 1) ?_
   intro v11 g12 Xg12 hg12 B
   have hbg12:=Nat.le_trans BB.size hg12
   replace X:=X.keep B
   replace BB:=BB.trans (Chg.of (F:=fun _=>False) B) (fun _ _ k=>k.elim)
   replace LP:=LP.trans (Lp.of B)
   replace M:=M.keep B
   replace Xg2:=Xg2.keep B
   replace XM:=XM.keep B
   replace QW:=QW.keep B
   replace QO:=QO.keep B
   replace Xg8:=Xg8.keep B
   clear B
   refine ⟨Xg8,?_⟩
   refine zc 3 36 58 #[sg 1 g12] (pSum1 (B:=10000) (v:=(oa,on,oc,ob,om,od)) Xg12 QO hfo (by decide)) ?_
   rintro _ v14 ⟨aq13,kq13,dq13,bq13,lq13,eq13,rfl,Qq13,B⟩
   replace X:=X.keep B
   replace BB:=BB.trans (Chg.of (F:=fun _=>False) B) (fun _ _ k=>k.elim)
   replace LP:=LP.trans (Lp.of B)
   replace M:=M.keep B
   replace Xg2:=Xg2.keep B
   replace XM:=XM.keep B
   replace QW:=QW.keep B
   replace QO:=QO.keep B
   replace Xg8:=Xg8.keep B
   replace Xg12:=Xg12.keep B
   clear B
   refine ⟨_,rfl,Xg8,?_⟩
   refine zs 8 Xg2 0 (.agg #[.slice aq13 kq13 dq13,.slice bq13 lq13 eq13]) [.slice aq13 kq13 dq13,.slice bq13 lq13 eq13] [.slice aq13 kq13 dq13,.slice bq13 lq13 eq13] ?_
   intro v15 Y' C
   have P:=Lp.z0 Xg2 C (by rfl)
   replace X:=X.chg C (show g≠g2 by omega)
   replace BB:=BB.trans C (fun b hb k=>absurd hb (Nat.not_lt.2 ((show b=g2 from k)▸hbg2)))
   replace LP:=LP.trans P
   replace M:=M.off C P (fun e=>absurd hbm (Nat.not_lt.2 ((show bm=g2 from e)▸hbg2))) (fun m hm e=>absurd (hml m hm) (Nat.not_lt.2 ((show m.g=g2 from e)▸hbg2)))
   replace XM:=XM.chg C (show mg≠g2 by omega)
   replace QW:=QW.lp P
   replace QO:=QO.lp P
   replace Xg8:=Xg8.chg C (show g8≠g2 by omega)
   replace Xg12:=Xg12.chg C (show g12≠g2 by omega)
   replace Qq13:=Qq13.lp P
   clear C P Xg2
   have Xg2:=Y'
   clear Y'
   refine ⟨Xg8,?_⟩
   refine z 9 7 (iI mp) (z 10 8 (iI mk) (gz_done (ge_then (gc_fr [(6,pg g2),(7,iI mp),(8,iI mk)] (gc_ret (ge_ret (.tuple #[.agg #[.slice aq13 kq13 dq13,.slice bq13 lq13 eq13],iI mp,iI mk]) (rsc3 6 7 8 (T:=40) (by kernel_rfl) (by kernel_rfl) (by kernel_rfl) (by kernel_rfl) (lr Xg2 0)) ?_))))))
   have hT:sTold (sTick (Ls.map Ms.s) v) v d=(mo,mp,mk):=by unfold sTold sTick; rw [<- hS2,get_Y hy hA]
   refine ⟨aq13,kq13,dq13,bq13,lq13,eq13,LK g bm Ls,by rw [hT],by rw [hT]; exact Qq13,.inl ⟨bm,clock,A ++ (⟨mv,md,mg,mb,(wa,wn,wc,wb,wm,wd),(none,0,0,none,0,0),mr,0,0,0⟩:Ms) :: B,X,M,?_,un_at (un_on hU),?_⟩,fun b h=>.inl h,BB,LP⟩
   ·unfold sClear sTick
    rw [<- hS2]
    exact (at_eq (m2:=(⟨mv,md,mg,mb,(wa,wn,wc,wb,wm,wd),(none,0,0,none,0,0),mr,0,0,0⟩:Ms)) (f:=fun s=>(s.1,0,0,0)) (by rw [hS2]; exact un_on hU) hy ⟨rfl,rfl⟩ rfl).symm
   ·rw [<- LK_n hN2]; exact LK_n (by simp)
 ·have hgl:=X.lt
  have X0:=X
  have BB:=Below.refl w.heap.size w
  refine gc_enter (n:=41) Tryz.func14 rfl ?_
  clear BB
  have BB:=Chg.refl (fun b=>b=g) w
  have LP:=Lp.refl w
  refine gc_seq (gc_reg ?_)
  have lX:=X.lt
  refine ta 6 [zS,zS] 40 (pg) ?_
  intro v1 g2 Xg2 hg2 B
  have hbg2:=Nat.le_trans BB.size hg2
  replace X:=X.keep B
  replace BB:=BB.trans (Chg.of (F:=fun _=>False) B) (fun _ _ k=>k.elim)
  replace LP:=LP.trans (Lp.of B)
  clear B
  refine t 7 (iI 0) (t 8 (iI 0) (gl_nil (ge_then (gc_seq (gc_reg (t 11 (pg g) (t 12 (iU v) (tc 13 50 #[pg g,iU v,.func (.func 57) #[] #[]] (all_nil X) ?_))))))))
  rintro _ v3 ⟨rfl,B⟩
  refine ⟨_,rfl,?_⟩
  replace X:=X.keep B
  replace BB:=BB.trans (Chg.of (F:=fun _=>False) B) (fun _ _ k=>k.elim)
  replace LP:=LP.trans (Lp.of B)
  replace Xg2:=Xg2.keep B
  clear B
  refine gl_nil (ge_then (gc_seq (gc_reg (t 14 (pg g) (t 15 (pg g) (t 16 (pg g) (tl 17 (.map none) X 0 (t 18 (iU v) (t 19 (iU d) (t 20 (.agg #[iU v,iU d]) (tr 21 (.pointer none) (run_lk0 (v:=v) (d:=d)) (t 9 (.pointer none) (gl_nil (ge_then (gc_fr [(6,pg g2),(7,iI 0),(8,iI 0),(9,.pointer none)] (gc_seq (gc_seq (gc_reg (t 22 (.pointer none) (t 23 (bT) (gl_nil (ge_then (gc_yes (gc_seq (gc_reg (tc 24 58 #[zS] (pSum0) ?_))))))))))))))))))))))))))
  rintro _ v5 ⟨aq4,kq4,dq4,bq4,lq4,eq4,rfl,Qq4,B⟩
  refine ⟨_,rfl,?_⟩
  replace X:=X.keep B
  replace BB:=BB.trans (Chg.of (F:=fun _=>False) B) (fun _ _ k=>k.elim)
  replace LP:=LP.trans (Lp.of B)
  replace Xg2:=Xg2.keep B
  clear B
  refine ts Xg2 0 (.agg #[.slice aq4 kq4 dq4,.slice bq4 lq4 eq4]) [.slice aq4 kq4 dq4,.slice bq4 lq4 eq4] [.slice aq4 kq4 dq4,.slice bq4 lq4 eq4] ?_
  intro v6 Y' C
  have P:=Lp.z0 Xg2 C (by rfl)
  replace X:=X.chg C (show g≠g2 by omega)
  replace BB:=BB.trans C (fun b hb k=>absurd hb (Nat.not_lt.2 ((show b=g2 from k)▸hbg2)))
  replace LP:=LP.trans P
  replace Qq4:=Qq4.lp P
  clear C P Xg2
  have Xg2:=Y'
  clear Y'
  refine t 7 (iI 0) (t 8 (iI 0) (gl_nil (ge_then (gc_ret (ge_tr (ge_ret (.tuple #[.agg #[.slice aq4 kq4 dq4,.slice bq4 lq4 eq4],iI 0,iI 0]) (rsc3 6 7 8 (T:=40) (by kernel_rfl) (by kernel_rfl) (by kernel_rfl) (by kernel_rfl) (lr Xg2 0)) ?_))))))
  exact ⟨aq4,kq4,dq4,bq4,lq4,eq4,(· = g),rfl,Qq4,.inr ⟨X,rfl,rfl⟩,fun b h=>.inl h,BB,LP⟩
theorem lNew {w:World}:Calls Tryz.prog 11 #[] w fun e w'=>∃ g K,e=.returned (pg g)/\Lm w' g K []/\(∀ b,K b->w.heap.size<=b)/\Below w.heap.size w w':=by
 have BB:=Below.refl w.heap.size w
 refine gc_enter (n:=3) Tryz.func11 rfl ?_
 refine gc_seq (gc_reg (t 0 (.pointer none) (gl_nil (ge_then (gc_seq (gc_reg (t 1 (.agg #[.map none]) (ta 2 [.map none] 74 (pg) ?_))))))))
 intro v1 g2 Xg2 hg2 B
 have hbg2:=Nat.le_trans BB.size hg2
 replace BB:=joinB BB B
 refine t 0 (pg g2) (gl_nil (ge_then (gc_ret (ge_ret (pg g2) (rs1 0 (by kernel_rfl) (by kernel_rfl)) ?_))))
 exact ⟨g2,(· = g2),rfl,.inr ⟨Xg2,rfl,rfl⟩,fun b h=>(show b=g2 from h)▸hbg2,BB⟩
end Lg
end
section
namespace Lg
open Go.RowKit Go.Lib Lim Pg Gl
set_option linter.unusedVariables false
theorem begin_m {w:World} {g bm clock:Nat} {Ls:List Ms} {v d:Int} (hv:0<=v/\v < 18446744073709551616) (hd:0<=d/\d < 18446744073709551616) (X:Blk w g [.map (some bm)] 74) (M:MapL w bm clock Ls) (hno:∀ m∈Ls,¬ (m.v=v/\m.d=d)):Calls Tryz.prog 62 #[pg g,.int .u64 v,.int .u64 d] w fun e w'=>∃ mg,e=.returned (pg mg)/\w.heap.size<=mg/\Blk w' g [.map (some bm)] 74/\MapL w' bm (clock + 1) (Ls ++ [(⟨v,d,mg,clock,(none,0,0,none,0,0),(none,0,0,none,0,0),0,0,0,0⟩:Ms)])/\Chg (· = bm) w w'/\Lp w w':=by
 have hbm:=lt_of_block M.ob
 have hml:∀ m∈Ls,m.g < w.heap.size:=fun m hm=>(M.blk m hm).lt
 have hgl:=X.lt
 have X0:=X
 have M0:=M
 have BB:=Below.refl w.heap.size w
 refine gc_enter (n:=28) Tryz.func62 rfl ?_
 clear BB
 have BB:=Chg.refl (fun b=>b=bm) w
 have LP:=Lp.refl w
 refine gc_seq (gc_reg (t 6 (.pointer none) (gl_nil (ge_then (gc_seq (gc_seq (gc_reg (t 8 (pg g) (t 9 (pg g) (t 10 (pg g) (tl 11 (.map (some bm)) X 0 (t 12 (bF) (gl_nil (ge_then (gc_no (gc_skip (ge_then (gc_seq (gc_reg (t 17 (.agg #[zS,zS,zS,zS,iI 0,iI 0]) ?_))))))))))))))))))))
 have lX:=X.lt
 refine ta 18 [zS,zS,zS,zS,iI 0,iI 0] 79 (pg) ?_
 intro v1 g2 Xg2 hg2 B
 have hbg2:=Nat.le_trans BB.size hg2
 replace X:=X.keep B
 replace BB:=BB.trans (Chg.of (F:=fun _=>False) B) (fun _ _ k=>k.elim)
 replace LP:=LP.trans (Lp.of B)
 replace M:=M.keep B
 refine t 7 (pg g2) (gl_nil (ge_then (gc_fr [(0,pg g),(1,iU v),(2,iU d),(6,.pointer none),(7,pg g2)] (gc_seq (gc_reg (t 19 (pg g) (t 20 (pg g) (t 21 (pg g) (tl 22 (.map (some bm)) X 0 (t 23 (iU v) (t 24 (iU d) (t 25 (.agg #[iU v,iU d]) (t 26 (pg g2) (tv _ (run_mup (v:=v) (d:=d) g2 M.ob (fm_N hno)) ?_))))))))))))))
 have C:=wset_chg (w:=v1) bm (.map (mes (Ls.map Ms.n ++ [⟨v,d,g2,clock⟩])) (clock + 1))
 have O2:ObW (wset v1 bm (.map (mes (Ls.map Ms.n ++ [⟨v,d,g2,clock⟩])) (clock + 1))) bm (.map (mes (Ls.map Ms.n ++ [⟨v,d,g2,clock⟩])) (clock + 1)):=⟨wset_at M.ob⟩
 have P:=M.lpm C
 have hXb:=(M.ne X (by decide)).1.symm
 have R:=M.rest.off C P M.bne
 clear M
 generalize wset v1 bm (.map (mes (Ls.map Ms.n ++ [⟨v,d,g2,clock⟩])) (clock + 1))=v3 at *
 replace X:=X.chg C hXb
 replace BB:=BB.trans C (fun _ _ k=>k)
 replace LP:=LP.trans P
 replace Xg2:=Xg2.chg C (show g2≠bm by omega)
 clear C P
 refine gl_nil (ge_then (gc_seq (gc_reg (t 27 (pg g2) (t 6 (pg g2) (gl_nil (ge_then (gc_ret (ge_ret (pg g2) (rs1 6 (by kernel_rfl) (by kernel_rfl)) ?_)))))))))
 have M2:=R.snoc (m:=(⟨v,d,g2,clock,(none,0,0,none,0,0),(none,0,0,none,0,0),0,0,0,0⟩:Ms)) O2 rfl Xg2 rz_nil rz_nil (fun m hm k=>absurd (hml m hm) (Nat.not_lt.2 ((show m.g=g2 from k)▸hbg2))) ⟨hv,hd⟩
 exact ⟨g2,rfl,hbg2,X,M2,BB,LP⟩
theorem begin_0 {w:World} {g:Nat} {v d:Int} (hv:0<=v/\v < 18446744073709551616) (hd:0<=d/\d < 18446744073709551616) (X:Blk w g [.map none] 74):Calls Tryz.prog 62 #[pg g,.int .u64 v,.int .u64 d] w fun e w'=>∃ bm mg,e=.returned (pg mg)/\w.heap.size<=bm/\w.heap.size<=mg/\Blk w' g [.map (some bm)] 74/\MapL w' bm 1 [(⟨v,d,mg,0,(none,0,0,none,0,0),(none,0,0,none,0,0),0,0,0,0⟩:Ms)]/\Chg (· = g) w w'/\Lp w w':=by
 have hgl:=X.lt
 have X0:=X
 have BB:=Below.refl w.heap.size w
 refine gc_enter (n:=28) Tryz.func62 rfl ?_
 clear BB
 have BB:=Chg.refl (fun b=>b=g) w
 have LP:=Lp.refl w
 refine gc_seq (gc_reg (t 6 (.pointer none) (gl_nil (ge_then (gc_seq (gc_seq (gc_reg (t 8 (pg g) (t 9 (pg g) (t 10 (pg g) (tl 11 (.map none) X 0 (t 12 (bT) (gl_nil (ge_then (gc_yes (gc_reg (t 13 (pg g) (tmk 14 ?_))))))))))))))))))
 intro v1 bm hM hbm B
 have hwb:=Nat.le_trans BB.size hbm
 have O:ObW v1 bm (.map #[] 0):=⟨hM⟩
 clear hM
 replace X:=X.keep B
 replace BB:=BB.trans (Chg.of (F:=fun _=>False) B) (fun _ _ k=>k.elim)
 replace LP:=LP.trans (Lp.of B)
 refine t 15 (pg g) (t 16 (pg g) (ts X 0 (.map (some bm)) [.map (some bm)] [.map (some bm)] ?_))
 intro v2 Y' C
 have P:=Lp.cg X C (by rfl)
 replace BB:=BB.trans C (fun _ _ h=>h)
 replace LP:=LP.trans P
 replace O:=O.off C (show bm≠g by omega)
 clear C P X
 have X:=Y'
 clear Y'
 refine gl_nil (ge_then (gc_fr [(0,pg g),(1,iU v),(2,iU d),(6,.pointer none)] (gc_seq (gc_reg (t 17 (.agg #[zS,zS,zS,zS,iI 0,iI 0]) ?_)))))
 have lX:=X.lt
 have lO:=O.lt
 refine ta 18 [zS,zS,zS,zS,iI 0,iI 0] 79 (pg) ?_
 intro v3 g4 Xg4 hg4 B
 have hbg4:=Nat.le_trans BB.size hg4
 replace X:=X.keep B
 replace BB:=BB.trans (Chg.of (F:=fun _=>False) B) (fun _ _ k=>k.elim)
 replace LP:=LP.trans (Lp.of B)
 replace O:=O.keep B
 refine t 7 (pg g4) (gl_nil (ge_then (gc_seq (gc_reg (t 19 (pg g) (t 20 (pg g) (t 21 (pg g) (tl 22 (.map (some bm)) X 0 (t 23 (iU v) (t 24 (iU d) (t 25 (.agg #[iU v,iU d]) (t 26 (pg g4) (tv _ (run_mup (v:=v) (d:=d) g4 (L:=[]) O.ob rfl) ?_)))))))))))))
 have C:=wset_chg (w:=v3) bm (.map (mes (([]:List Mn) ++ [⟨v,d,g4,0⟩])) (0 + 1))
 have O2:ObW (wset v3 bm (.map (mes (([]:List Mn) ++ [⟨v,d,g4,0⟩])) (0 + 1))) bm (.map (mes (([]:List Mn) ++ [⟨v,d,g4,0⟩])) (0 + 1)):=⟨wset_at O.ob⟩
 have P:=Lp.ob O (fun _ _ _ h=>by cases h) C
 have R:MapR (wset v3 bm (.map (mes (([]:List Mn) ++ [⟨v,d,g4,0⟩])) (0 + 1))) 0 []:=⟨List.nodup_nil,fun _ h=>absurd h (by simp),fun _ h=>absurd h (by simp),fun _ h=>absurd h (by simp),List.Pairwise.nil,fun _ h=>absurd h (by simp)⟩
 clear O
 generalize wset v3 bm (.map (mes (([]:List Mn) ++ [⟨v,d,g4,0⟩])) (0 + 1))=v5 at *
 replace X:=X.chg C (show g≠bm by omega)
 replace BB:=BB.trans C (fun b hb k=>absurd hb (Nat.not_lt.2 ((show b=bm from k)▸hwb)))
 replace LP:=LP.trans P
 replace Xg4:=Xg4.chg C (show g4≠bm by omega)
 clear C P
 refine gl_nil (ge_then (gc_seq (gc_reg (t 27 (pg g4) (t 6 (pg g4) (gl_nil (ge_then (gc_fr [(6,pg g4)] (gc_ret (ge_ret (pg g4) (rs1 6 (by kernel_rfl) (by kernel_rfl)) ?_))))))))))
 have M2:=R.snoc (m:=(⟨v,d,g4,0,(none,0,0,none,0,0),(none,0,0,none,0,0),0,0,0,0⟩:Ms)) O2 rfl Xg4 rz_nil rz_nil (fun _ h=>absurd h (by simp)) ⟨hv,hd⟩
 exact ⟨bm,g4,rfl,hwb,hbg4,X,M2,BB,LP⟩
theorem lHold {w:World} {g:Nat} {K:Nat->Prop} {S:St} {L:Nat} {v d t_:Int} (hv:0<=v/\v < 18446744073709551616) (hd:0<=d/\d < 18446744073709551616) {ax:Option Addr} {nx cx:Nat} {x:Int} (Nx:NatA w ax nx cx x) (lx:nx<=100) {ay:Option Addr} {ny cy:Nat} {y:Int} (Ny:NatA w ay ny cy y) (ly:ny<=100) (ht:0<=t_/\t_ < 18446744073709551616) (M:Lm w g K S) (hL:Fs S L) (hl:L<=640000) (hn:S.length<=100):Calls Tryz.prog 17 #[pg g,.int .u64 v,.int .u64 d,.agg #[.slice ax nx cx],.agg #[.slice ay ny cy],.int .u64 t_] w fun e w'=>∃ K',e=.returned (.tuple #[])/\Lm w' g K' (sHold S v d x y t_)/\(∀ b,K' b->K b\/w.heap.size<=b)/\Chg K w w'/\Lp w w':=by
 rcases M with ⟨bm,clock,Ls,X,M,rfl,hU,rfl⟩ | ⟨X,rfl,rfl⟩
 ·have hbm:=lt_of_block M.ob
  have hml:∀ m∈Ls,m.g < w.heap.size:=fun m hm=>(M.blk m hm).lt
  have hgl:=X.lt
  have X0:=X
  have M0:=M
  rcases fndL Ls v d with hno | ⟨A,m,B,rfl,hy,hA⟩
  ·have BB:=Below.refl w.heap.size w
   refine gc_enter (n:=34) Tryz.func17 rfl ?_
   clear BB
   have BB:=Chg.refl (LK g bm Ls) w
   have LP:=Lp.refl w
   refine gc_seq (gc_reg ?_)
   have lX:=X.lt
   refine ta 9 [.slice ax nx cx] 35 (pg) ?_
   intro v1 g2 Xg2 hg2 B
   have hbg2:=Nat.le_trans BB.size hg2
   replace X:=X.keep B
   replace BB:=BB.trans (Chg.of (F:=fun _=>False) B) (fun _ _ k=>k.elim)
   replace LP:=LP.trans (Lp.of B)
   replace M:=M.keep B
   clear B
   have lX:=X.lt
   have lXg2:=Xg2.lt
   refine ta 10 [.slice ay ny cy] 35 (pg) ?_
   intro v3 g4 Xg4 hg4 B
   have hbg4:=Nat.le_trans BB.size hg4
   replace X:=X.keep B
   replace BB:=BB.trans (Chg.of (F:=fun _=>False) B) (fun _ _ k=>k.elim)
   replace LP:=LP.trans (Lp.of B)
   replace M:=M.keep B
   replace Xg2:=Xg2.keep B
   clear B
   refine gl_nil (ge_then (gc_seq (gc_reg (t 13 (pg g) (t 14 (pg g) (t 15 (pg g) (tl 16 (.map (some bm)) X 0 (t 17 (iU v) (t 18 (iU d) (t 19 (.agg #[iU v,iU d]) (tr 20 (.pointer none) (run_lkN M.ob (fm_N hno)) (t 12 (.pointer none) (gl_nil (ge_then (gc_fr [(0,pg g),(1,iU v),(2,iU d),(5,iU t_),(9,pg g2),(10,pg g4),(12,.pointer none)] (gc_seq (gc_seq (gc_reg (t 21 (.pointer none) (t 22 (bT) (gl_nil (ge_then (gc_yes (gc_reg (t 23 (pg g) (t 24 (iU v) (t 25 (iU d) ?_)))))))))))))))))))))))))))
   have hsz:=BB.size
   have lX:=X.lt
   have lXg2:=Xg2.lt
   have lXg4:=Xg4.lt
   refine tc 26 62 #[pg g,iU v,iU d] (begin_m hv hd X M hno) ?_
   rintro _ v5 ⟨mg,rfl,hmg,X2,M2,C,P⟩
   refine ⟨_,rfl,?_⟩
   replace BB:=BB.trans C (fun b _ k=>.inr (.inl k))
   replace LP:=LP.trans P
   clear X M
   have X:=X2
   have M:=M2
   clear X2 M2
   replace Xg2:=Xg2.chg C (show g2≠bm by omega)
   replace Xg4:=Xg4.chg C (show g4≠bm by omega)
   clear C P
   have XM:Blk _ mg [zS,zS,zS,zS,iI 0,iI 0] 79:=M.blk (⟨v,d,mg,clock,(none,0,0,none,0,0),(none,0,0,none,0,0),0,0,0,0⟩:Ms) (by simp)
   have hXm:g≠mg:=by omega
   have hbmg:=Nat.le_trans hsz hmg
   refine t 12 (pg mg) (gl_nil (ge_then (gc_reg (t 27 (pg mg) (tlr 28 [.slice ax nx cx] Xg2 0 (tlr 29 [.slice ay ny cy] Xg4 0 (t 30 (iU t_) (tc 31 63 #[.agg #[.slice ax nx cx],.agg #[.slice ay ny cy],iU t_] (worth_any (natK Nx X0 M0 BB) lx (natK Ny X0 M0 BB) ly ht) ?_))))))))
   rintro _ v7 ⟨aq6,kq6,dq6,bq6,lq6,eq6,rfl,Qq6,B⟩
   refine ⟨_,rfl,?_⟩
   replace BB:=BB.trans (Chg.of (F:=fun _=>False) B) (fun _ _ k=>k.elim)
   replace LP:=LP.trans (Lp.of B)
   replace Xg2:=Xg2.keep B
   replace Xg4:=Xg4.keep B
   replace M:=M.keep B
   replace X:=X.keep B
   replace XM:=XM.keep B
   clear B
   refine t 32 (pg mg) (t 33 (pg mg) (ts XM 0 (.agg #[.slice aq6 kq6 dq6,.slice bq6 lq6 eq6]) [.slice aq6 kq6 dq6,.slice bq6 lq6 eq6] [.slice aq6 kq6 dq6,.slice bq6 lq6 eq6,zS,zS,iI 0,iI 0] ?_))
   intro v8 Y' C
   have P:=Lp.cg XM C (by rfl)
   replace M:=MapL.st (m:=(⟨v,d,mg,clock,(none,0,0,none,0,0),(none,0,0,none,0,0),0,0,0,0⟩:Ms)) (A:=Ls) (B:=[]) M (⟨v,d,mg,clock,(aq6,kq6,dq6,bq6,lq6,eq6),(none,0,0,none,0,0),qv (x * t_) y,0,0,0⟩:Ms) rfl Y' C P (Qq6.lp P) ((M.q (⟨v,d,mg,clock,(none,0,0,none,0,0),(none,0,0,none,0,0),0,0,0,0⟩:Ms) (by simp)).2.lp P)
   replace BB:=BB.trans C (fun b hb k=>absurd hb (Nat.not_lt.2 ((show b=mg from k)▸hbmg)))
   replace LP:=LP.trans P
   replace Xg2:=Xg2.chg C (show g2≠mg by omega)
   replace Xg4:=Xg4.chg C (show g4≠mg by omega)
   replace X:=X.chg C hXm
   replace Qq6:=Qq6.lp P
   clear C P XM
   have XM:=Y'
   clear Y'
   refine gl_nil (ge_end (.tuple #[]) (rs0 (by kernel_rfl)) ?_)
   refine ⟨LK g bm (Ls ++ [(⟨v,d,mg,clock,(aq6,kq6,dq6,bq6,lq6,eq6),(none,0,0,none,0,0),qv (x * t_) y,0,0,0⟩:Ms)]),rfl,.inl ⟨bm,clock + 1,Ls ++ [(⟨v,d,mg,clock,(aq6,kq6,dq6,bq6,lq6,eq6),(none,0,0,none,0,0),qv (x * t_) y,0,0,0⟩:Ms)],X,M,?_,un_hold hU,rfl⟩,fun b h => ?_,BB,LP⟩
   ·unfold sHold
    rw [get_N hno,if_neg (by simp)]
    simp
   ·rcases h with h | h | ⟨m,hm,h⟩
    ·exact .inl (.inl h)
    ·exact .inl (.inr (.inl h))
    ·rcases List.mem_append.1 hm with k | k
     ·exact .inl (.inr (.inr ⟨m,k,h⟩))
     ·rw [List.mem_singleton] at k
      subst k
      exact .inr (h▸hbmg)
  ·obtain ⟨mv,md,mg,mb,⟨wa,wn,wc,wb,wm,wd⟩,⟨oa,on,oc,ob,om,od⟩,mr,mo,mp,mk⟩:=m
   have hmem:(⟨mv,md,mg,mb,(wa,wn,wc,wb,wm,wd),(oa,on,oc,ob,om,od),mr,mo,mp,mk⟩:Ms)∈A ++ (⟨mv,md,mg,mb,(wa,wn,wc,wb,wm,wd),(oa,on,oc,ob,om,od),mr,mo,mp,mk⟩:Ms) :: B:=by simp
   have hKm:LK g bm (A ++ (⟨mv,md,mg,mb,(wa,wn,wc,wb,wm,wd),(oa,on,oc,ob,om,od),mr,mo,mp,mk⟩:Ms) :: B) mg:=.inr (.inr ⟨_,hmem,rfl⟩)
   have hXm:g≠mg:=((M.ne X (by decide)).2 _ hmem).symm
   have hmg:=hml _ hmem
   dsimp only at hmg
   have BB:=Below.refl w.heap.size w
   refine gc_enter (n:=34) Tryz.func17 rfl ?_
   clear BB
   have BB:=Chg.refl (LK g bm (A ++ (⟨mv,md,mg,mb,(wa,wn,wc,wb,wm,wd),(oa,on,oc,ob,om,od),mr,mo,mp,mk⟩:Ms) :: B)) w
   have LP:=Lp.refl w
   have XM:Blk _ mg [.slice wa wn wc,.slice wb wm wd,.slice oa on oc,.slice ob om od,iI mp,iI mk] 79:=M.blk _ hmem
   have QW:RZ _ wa wn wc wb wm wd mr:=(M.q _ hmem).1
   have QO:RZ _ oa on oc ob om od mo:=(M.q _ hmem).2
   refine gc_seq (gc_reg ?_)
   have lX:=X.lt
   have lXM:=XM.lt
   refine ta 9 [.slice ax nx cx] 35 (pg) ?_
   intro v1 g2 Xg2 hg2 B
   have hbg2:=Nat.le_trans BB.size hg2
   replace X:=X.keep B
   replace BB:=BB.trans (Chg.of (F:=fun _=>False) B) (fun _ _ k=>k.elim)
   replace LP:=LP.trans (Lp.of B)
   replace M:=M.keep B
   replace XM:=XM.keep B
   replace QW:=QW.keep B
   replace QO:=QO.keep B
   clear B
   have lX:=X.lt
   have lXM:=XM.lt
   have lXg2:=Xg2.lt
   refine ta 10 [.slice ay ny cy] 35 (pg) ?_
   intro v3 g4 Xg4 hg4 B
   have hbg4:=Nat.le_trans BB.size hg4
   replace X:=X.keep B
   replace BB:=BB.trans (Chg.of (F:=fun _=>False) B) (fun _ _ k=>k.elim)
   replace LP:=LP.trans (Lp.of B)
   replace M:=M.keep B
   replace XM:=XM.keep B
   replace QW:=QW.keep B
   replace QO:=QO.keep B
   replace Xg2:=Xg2.keep B
   clear B
   refine gl_nil (ge_then (gc_seq (gc_reg (t 13 (pg g) (t 14 (pg g) (t 15 (pg g) (tl 16 (.map (some bm)) X 0 (t 17 (iU v) (t 18 (iU d) (t 19 (.agg #[iU v,iU d]) (tr 20 (pg mg) (run_lkY mg M.ob (fm_Y hy hA)) (t 12 (pg mg) (gl_nil (ge_then (gc_fr [(0,pg g),(1,iU v),(2,iU d),(5,iU t_),(9,pg g2),(10,pg g4),(12,pg mg)] (gc_seq (gc_seq (gc_reg (t 21 (pg mg) (t 22 (bF) (gl_nil (ge_then (gc_no (gc_skip (ge_then (gc_reg (t 27 (pg mg) (tlr 28 [.slice ax nx cx] Xg2 0 (tlr 29 [.slice ay ny cy] Xg4 0 (t 30 (iU t_) (tc 31 63 #[.agg #[.slice ax nx cx],.agg #[.slice ay ny cy],iU t_] (worth_any (natK Nx X0 M0 BB) lx (natK Ny X0 M0 BB) ly ht) ?_)))))))))))))))))))))))))))))))
   rintro _ v6 ⟨aq5,kq5,dq5,bq5,lq5,eq5,rfl,Qq5,B⟩
   refine ⟨_,rfl,?_⟩
   replace X:=X.keep B
   replace BB:=BB.trans (Chg.of (F:=fun _=>False) B) (fun _ _ k=>k.elim)
   replace LP:=LP.trans (Lp.of B)
   replace M:=M.keep B
   replace XM:=XM.keep B
   replace QW:=QW.keep B
   replace QO:=QO.keep B
   replace Xg2:=Xg2.keep B
   replace Xg4:=Xg4.keep B
   clear B
   refine t 32 (pg mg) (t 33 (pg mg) (ts XM 0 (.agg #[.slice aq5 kq5 dq5,.slice bq5 lq5 eq5]) [.slice aq5 kq5 dq5,.slice bq5 lq5 eq5] [.slice aq5 kq5 dq5,.slice bq5 lq5 eq5,.slice oa on oc,.slice ob om od,iI mp,iI mk] ?_))
   intro v7 Y' C
   have P:=Lp.cg XM C (by rfl)
   replace M:=MapL.st (m:=(⟨mv,md,mg,mb,(wa,wn,wc,wb,wm,wd),(oa,on,oc,ob,om,od),mr,mo,mp,mk⟩:Ms)) (A:=A) (B:=B) M (⟨mv,md,mg,mb,(aq5,kq5,dq5,bq5,lq5,eq5),(oa,on,oc,ob,om,od),qv (x * t_) y,mo,mp,mk⟩:Ms) rfl Y' C P (Qq5.lp P) ((M.q (⟨mv,md,mg,mb,(wa,wn,wc,wb,wm,wd),(oa,on,oc,ob,om,od),mr,mo,mp,mk⟩:Ms) (by simp)).2.lp P)
   replace hml:∀ m∈A ++ (⟨mv,md,mg,mb,(aq5,kq5,dq5,bq5,lq5,eq5),(oa,on,oc,ob,om,od),qv (x * t_) y,mo,mp,mk⟩:Ms) :: B,m.g < w.heap.size:=n_gs (P:=fun g=>g < w.heap.size) (by simp) hml
   replace X:=X.chg C hXm
   replace BB:=BB.trans C (fun b _ k=>(show b=mg from k)▸hKm)
   replace LP:=LP.trans P
   replace QW:=QW.lp P
   replace QO:=QO.lp P
   replace Xg2:=Xg2.chg C (show g2≠mg by omega)
   replace Xg4:=Xg4.chg C (show g4≠mg by omega)
   replace Qq5:=Qq5.lp P
   clear C P XM
   have XM:=Y'
   clear Y'
   refine gl_nil (ge_end (.tuple #[]) (rs0 (by kernel_rfl)) ?_)
   refine ⟨LK g bm (A ++ (⟨mv,md,mg,mb,(aq5,kq5,dq5,bq5,lq5,eq5),(oa,on,oc,ob,om,od),qv (x * t_) y,mo,mp,mk⟩:Ms) :: B),rfl,.inl ⟨bm,clock,A ++ (⟨mv,md,mg,mb,(aq5,kq5,dq5,bq5,lq5,eq5),(oa,on,oc,ob,om,od),qv (x * t_) y,mo,mp,mk⟩:Ms) :: B,X,M,?_,un_hold hU,rfl⟩,fun b h=>.inl ?_,BB,LP⟩
   ·unfold sHold
    rw [get_Y hy hA,if_pos (by rfl)]
    exact (at_eq (m2:=(⟨mv,md,mg,mb,(aq5,kq5,dq5,bq5,lq5,eq5),(oa,on,oc,ob,om,od),qv (x * t_) y,mo,mp,mk⟩:Ms)) (f:=fun e=>(qv (x * t_) y,e.2)) hU hy ⟨rfl,rfl⟩ rfl).symm
   ·rw [LK_n (L:=A ++ (⟨mv,md,mg,mb,(wa,wn,wc,wb,wm,wd),(oa,on,oc,ob,om,od),mr,mo,mp,mk⟩:Ms) :: B) (by simp)] at h; exact h
 ·have hgl:=X.lt
  have X0:=X
  have BB:=Below.refl w.heap.size w
  refine gc_enter (n:=34) Tryz.func17 rfl ?_
  clear BB
  have BB:=Chg.refl (fun b=>b=g) w
  have LP:=Lp.refl w
  refine gc_seq (gc_reg ?_)
  have lX:=X.lt
  refine ta 9 [.slice ax nx cx] 35 (pg) ?_
  intro v1 g2 Xg2 hg2 B
  have hbg2:=Nat.le_trans BB.size hg2
  replace X:=X.keep B
  replace BB:=BB.trans (Chg.of (F:=fun _=>False) B) (fun _ _ k=>k.elim)
  replace LP:=LP.trans (Lp.of B)
  clear B
  have lX:=X.lt
  have lXg2:=Xg2.lt
  refine ta 10 [.slice ay ny cy] 35 (pg) ?_
  intro v3 g4 Xg4 hg4 B
  have hbg4:=Nat.le_trans BB.size hg4
  replace X:=X.keep B
  replace BB:=BB.trans (Chg.of (F:=fun _=>False) B) (fun _ _ k=>k.elim)
  replace LP:=LP.trans (Lp.of B)
  replace Xg2:=Xg2.keep B
  clear B
  refine gl_nil (ge_then (gc_seq (gc_reg (t 13 (pg g) (t 14 (pg g) (t 15 (pg g) (tl 16 (.map none) X 0 (t 17 (iU v) (t 18 (iU d) (t 19 (.agg #[iU v,iU d]) (tr 20 (.pointer none) (run_lk0 (v:=v) (d:=d)) (t 12 (.pointer none) (gl_nil (ge_then (gc_fr [(0,pg g),(1,iU v),(2,iU d),(5,iU t_),(9,pg g2),(10,pg g4),(12,.pointer none)] (gc_seq (gc_seq (gc_reg (t 21 (.pointer none) (t 22 (bT) (gl_nil (ge_then (gc_yes (gc_reg (t 23 (pg g) (t 24 (iU v) (t 25 (iU d) ?_)))))))))))))))))))))))))))
  have hsz:=BB.size
  have lX:=X.lt
  have lXg2:=Xg2.lt
  have lXg4:=Xg4.lt
  refine tc 26 62 #[pg g,iU v,iU d] (begin_0 hv hd X) ?_
  rintro _ v5 ⟨bm,mg,rfl,hbm,hmg,X2,M2,C,P⟩
  refine ⟨_,rfl,?_⟩
  replace BB:=BB.trans C (fun _ _ k=>k)
  replace LP:=LP.trans P
  clear X
  have X:=X2
  have M:=M2
  clear X2 M2
  replace Xg2:=Xg2.chg C (show g2≠g by omega)
  replace Xg4:=Xg4.chg C (show g4≠g by omega)
  clear C P
  have XM:Blk _ mg [zS,zS,zS,zS,iI 0,iI 0] 79:=M.blk (⟨v,d,mg,0,(none,0,0,none,0,0),(none,0,0,none,0,0),0,0,0,0⟩:Ms) (by simp)
  have hXm:g≠mg:=by omega
  replace hbm:=Nat.le_trans hsz hbm
  have hbmg:=Nat.le_trans hsz hmg
  refine t 12 (pg mg) (gl_nil (ge_then (gc_reg (t 27 (pg mg) (tlr 28 [.slice ax nx cx] Xg2 0 (tlr 29 [.slice ay ny cy] Xg4 0 (t 30 (iU t_) (tc 31 63 #[.agg #[.slice ax nx cx],.agg #[.slice ay ny cy],iU t_] (worth_any (Nx.lp0 X0 BB) lx (Ny.lp0 X0 BB) ly ht) ?_))))))))
  rintro _ v7 ⟨aq6,kq6,dq6,bq6,lq6,eq6,rfl,Qq6,B⟩
  refine ⟨_,rfl,?_⟩
  replace BB:=BB.trans (Chg.of (F:=fun _=>False) B) (fun _ _ k=>k.elim)
  replace LP:=LP.trans (Lp.of B)
  replace Xg2:=Xg2.keep B
  replace Xg4:=Xg4.keep B
  replace M:=M.keep B
  replace X:=X.keep B
  replace XM:=XM.keep B
  clear B
  refine t 32 (pg mg) (t 33 (pg mg) (ts XM 0 (.agg #[.slice aq6 kq6 dq6,.slice bq6 lq6 eq6]) [.slice aq6 kq6 dq6,.slice bq6 lq6 eq6] [.slice aq6 kq6 dq6,.slice bq6 lq6 eq6,zS,zS,iI 0,iI 0] ?_))
  intro v8 Y' C
  have P:=Lp.cg XM C (by rfl)
  replace M:=MapL.st (m:=(⟨v,d,mg,0,(none,0,0,none,0,0),(none,0,0,none,0,0),0,0,0,0⟩:Ms)) (A:=[]) (B:=[]) M (⟨v,d,mg,0,(aq6,kq6,dq6,bq6,lq6,eq6),(none,0,0,none,0,0),qv (x * t_) y,0,0,0⟩:Ms) rfl Y' C P (Qq6.lp P) ((M.q (⟨v,d,mg,0,(none,0,0,none,0,0),(none,0,0,none,0,0),0,0,0,0⟩:Ms) (by simp)).2.lp P)
  replace BB:=BB.trans C (fun b hb k=>absurd hb (Nat.not_lt.2 ((show b=mg from k)▸hbmg)))
  replace LP:=LP.trans P
  replace Xg2:=Xg2.chg C (show g2≠mg by omega)
  replace Xg4:=Xg4.chg C (show g4≠mg by omega)
  replace X:=X.chg C hXm
  replace Qq6:=Qq6.lp P
  clear C P XM
  have XM:=Y'
  clear Y'
  refine gl_nil (ge_end (.tuple #[]) (rs0 (by kernel_rfl)) ?_)
  refine ⟨LK g bm ([] ++ [(⟨v,d,mg,0,(aq6,kq6,dq6,bq6,lq6,eq6),(none,0,0,none,0,0),qv (x * t_) y,0,0,0⟩:Ms)]),rfl,.inl ⟨bm,0 + 1,[] ++ [(⟨v,d,mg,0,(aq6,kq6,dq6,bq6,lq6,eq6),(none,0,0,none,0,0),qv (x * t_) y,0,0,0⟩:Ms)],X,M,?_,un_hold List.Pairwise.nil,rfl⟩,fun b h => ?_,BB,LP⟩
  ·rfl
  ·rcases h with h | h | ⟨m,hm,h⟩
   ·exact .inl h
   ·exact .inr (h▸hbm)
   ·rcases List.mem_append.1 hm with k | k
    ·exact absurd k (by simp)
    ·rw [List.mem_singleton] at k
     subst k
     exact .inr (h▸hbmg)
end Lg
end
section
namespace Lg
open Go.RowKit Go.Lib Lim Pg Gl
theorem cellB {w W:World} {b o:Nat} {v:Value} (B:Below w.heap.size w W) (h:w.cell? ⟨b,o,none⟩=some v):W.cell? ⟨b,o,none⟩=some v:=by
 rw [World.cell?_of_block (w:=w) (B.block b (cell_lt h))]; exact h
theorem run_ixa {P:Program} {ρ:Operand->Value} {o:Oper} {w:World} {ao:Option Addr} (sz b off n c k:Nat) (hk:k < n) (hao:0 < n->ao=some ⟨b,off,none⟩) (ho:∃ T x y,o.op=.indexAddr T x y/\slT P T sz=true/\ρ x=.slice ao n c/\ρ y=.int .i64 (k:Int):=by exact ⟨_,_,_,rfl,by kernel_rfl,by kernel_rfl,by kernel_rfl⟩):(execOp ρ o).run P w=.ok (.value (.pointer (some ⟨b,off + k * sz,none⟩))) w:=by
 rw [hao (by omega)] at ho
 exact run_ixs sz b off n c k hk ho
theorem ld_nat {w:World} {g o:Nat} {v:Value} (c:w.cell? ⟨g,o,none⟩=some v):(loadVar 33 ⟨g,o,none⟩).run Tryz.prog w=.ok v w:=by go_simp
theorem belowK {w W W':World} {K:Nat->Prop} (b:Below w.heap.size w W) (C:Chg K W W') (h:∀ b,K b->w.heap.size<=b):Below w.heap.size w W' :=
 ⟨C.os.trans b.os,C.tape.trans b.tape,C.output.trans b.output,Nat.le_trans b.size C.size,fun i hi=>(C.same i (Nat.lt_of_lt_of_le hi b.size) (fun k=>absurd (h i k) (Nat.not_le.2 hi))).trans (b.block i hi)⟩
abbrev HF (xs:Nat->Int) (y t:Int):Nat->Stk:=fun i=>(qv (xs i * t) y,0,0,0)
theorem hf_ft {xs:Nat->Int} {y t:Int} {n:Nat} (hx:∀ i,i < n->0<=xs i/\xs i < 2 ^ (64 * 4)) (hy:0<=y/\y < 2 ^ (64 * 4)) (ht:0<=t/\t < 18446744073709551616):∀ i,i < n->Ft (HF xs y t i).1 640/\Ft (HF xs y t i).2.1 640/\0<=(HF xs y t i).2.2.1/\(HF xs y t i).2.2.1 < 1000000/\0<=(HF xs y t i).2.2.2/\(HF xs y t i).2.2.2 < 1000000:=by
 intro i hi
 have h:=hx i hi
 have e:=pw_lt h.1 h.2 (show t < 2 ^ 64 by omega)
 have e0:(2:Int) ^ (64 * 4) < 2 ^ 320:=by decide +kernel
 have hy2:y < 2 ^ 320:=by omega
 exact ⟨ft_up (qv_ft (L:=320) (by decide) ⟨Int.mul_nonneg h.1 ht.1,e⟩ ⟨hy.1,hy2⟩) (by decide),ft_up (show Ft 0 1 by decide +kernel) (by decide),(show (0:Int)<=0 by decide),(show (0:Int) < 1000000 by decide),(show (0:Int)<=0 by decide),(show (0:Int) < 1000000 by decide)⟩
end Lg
end
section
namespace Lg
open Go.RowKit Go.Lib Lim Pg Gl
def T1:St:=[((16,17),((10/3:Rat),0,0,0))]
def T2:St:=[((16,17),((10/3:Rat),1,0,0))]
def T3:St:=[((16,17),((5/3:Rat),1,1,1))]
def T4:St:=[((16,17),((5/3:Rat),(4/3:Rat),1,1))]
def T5:St:=[((16,17),((5/3:Rat),0,0,0))]
def T6:St:=[((16,17),((5/3:Rat),0,1,0))]
def T7:St:=[]
theorem run_nil {ρ:Operand->Value} {w:World} {o:Oper} {g:Nat} (ho:∃ x y,o.op=.binOp .eql 25 x y 25/\ρ x=pg g/\ρ y=.pointer none:=by exact ⟨_,_,rfl,by kernel_rfl,by kernel_rfl⟩):(execOp ρ o).run Tryz.prog w=.ok (.value (.bool false)) w:=by
 obtain ⟨x,y,h,h1,h2⟩:=ho
 simp only [execOp,h,h1,h2]
 go_simp
theorem rdl {fn:FuncId} {vs:Array Value} {w:World} {r s:Rat} (h:Calls Tryz.prog fn vs w fun e w'=>∃ a n c b m d_,e=.returned (.agg #[.slice a n c,.slice b m d_])/\RQ w' a n c b m d_ r/\Below w.heap.size w w') (e:r=s):Calls Tryz.prog fn vs w fun e w'=>∃ a n c b m d_,e=.returned (.agg #[.slice a n c,.slice b m d_])/\RQ w' a n c b m d_ s/\Below w.heap.size w w':=e▸h
theorem setl {fn:FuncId} {vs:Array Value} {w:World} {K:Nat->Prop} {S:St} {r s:Rat} {p q p' q':Int} {g:Nat} (h:Calls Tryz.prog fn vs w fun e w'=>∃ a n c b m d_ K',e=.returned (.tuple #[.agg #[.slice a n c,.slice b m d_],.int .i64 p,.int .i64 q])/\RQ w' a n c b m d_ r/\Lm w' g K' S/\(∀ b,K' b->K b\/w.heap.size<=b)/\Chg K w w'/\Lp w w') (e:r=s) (hp:p=p') (hq:q=q'):Calls Tryz.prog fn vs w fun e w'=>∃ a n c b m d_ K',e=.returned (.tuple #[.agg #[.slice a n c,.slice b m d_],.int .i64 p',.int .i64 q'])/\RQ w' a n c b m d_ s/\Lm w' g K' S/\(∀ b,K' b->K b\/w.heap.size<=b)/\Chg K w w'/\Lp w w':=by subst e hp hq; exact h
theorem fitl {fn:FuncId} {vs:Array Value} {w:World} {b t:Bool} (h:Calls Tryz.prog fn vs w fun e w'=>e=.returned (.bool b)/\Below w.heap.size w w') (e:b=t):Calls Tryz.prog fn vs w fun e w'=>e=.returned (.bool t)/\Below w.heap.size w w':=e▸h
theorem parse33 {w:World}:Calls Tryz.prog 48 #[.string { data:=#[48,46,51,51] }] w fun e w'=>∃ a k d,e=.returned (.tuple #[.agg #[.slice a k d],.int .i64 0])/\NatO w' a k d 330000000000000000000000000000000000/\k<=60/\Below w.heap.size w w':=by
 refine (dParse_ok ⟨#[48,46,51,51]⟩ 1 w (by decide) (by decide) (by decide) (by decide) (by decide) (by decide) (by decide)).mono ?_
 rintro e w1 ⟨a,k,d,rfl,O,hk,hB⟩
 have O:=O.eqv (y:=330000000000000000000000000000000000) (by decide)
 exact ⟨a,k,d,rfl,O,len_o O (by decide +kernel),hB⟩
theorem known24 {w:World}:Calls Tryz.prog 9 #[] w fun e w'=>e=.returned (.bool true)/\Below w.heap.size w w':=by
 have BB:=Below.refl w.heap.size w
 refine gc_enter (n:=122) Tryz.func9 rfl ?_
 refine gc_seq (gc_reg (t 0 (bF) (gl_nil (ge_then (gc_seq (gc_reg ?_))))))
 have hsz:=BB.size
 refine tc 12 11 #[] (lNew) ?_
 rintro _ v2 ⟨gL1,KL1,rfl,ML1,hlo_KL1,B⟩
 refine ⟨_,rfl,?_⟩
 replace BB:=joinB BB B
 replace hlo_KL1:∀ b,KL1 b->w.heap.size<=b:=fun b h=>Nat.le_trans hsz (hlo_KL1 b h)
 clear hsz
 refine t 1 (pg gL1) (gl_nil (ge_then (gc_seq (gc_seq (gc_reg (t 13 (pg gL1) (tr 14 (bF) (run_nil (g:=gL1)) (gl_nil (ge_then (gc_no (gc_skip (ge_then (gc_seq (gc_reg (t 15 (pg gL1) (tc 16 46 #[iU 1] (dOf (x:=1) (by decide) (by decide)) ?_))))))))))))))))
 rintro _ v4 ⟨an3,kn3,dn3,rfl,Nn3,ln3,B⟩
 refine ⟨_,rfl,?_⟩
 replace BB:=joinB BB B
 replace ML1:=ML1.keep B
 refine tc 17 46 #[iU 3] (dOf (x:=3) (by decide) (by decide)) ?_
 rintro _ v6 ⟨an5,kn5,dn5,rfl,Nn5,ln5,B⟩
 refine ⟨_,rfl,?_⟩
 replace BB:=joinB BB B
 replace ML1:=ML1.keep B
 replace Nn3:=Nn3.keep B
 refine tc 18 17 #[pg gL1,iU 16,iU 17,.agg #[.slice an3 kn3 dn3],.agg #[.slice an5 kn5 dn5],iU 10] (lHold ⟨by decide,by decide⟩ ⟨by decide,by decide⟩ Nn3.a (by omega) Nn5.a (by omega) ⟨by decide,by decide⟩ ML1 (L:=640) (by decide +kernel) (by decide) (by decide)) ?_
 rintro _ v9 ⟨K7,rfl,M8,hK,C,P⟩
 refine ⟨_,rfl,?_⟩
 have hlo_K7:∀ b,K7 b->w.heap.size<=b:=fun b h=>(hK b h).elim (hlo_KL1 b) (fun h=>Nat.le_trans BB.size h)
 replace BB:=belowK BB C hlo_KL1
 replace Nn3:=NatO.lp Nn3 P
 replace Nn5:=NatO.lp Nn5 P
 clear hlo_KL1 ML1 hK C P
 replace M8:=(show Lm _ _ _ T1 from (show sHold [] 16 17 (1 * U36) (3 * U36) 10=T1 by decide +kernel)▸M8)
 refine gl_nil (ge_then (gc_seq (gc_reg (t 19 (pg gL1) ?_))))
 refine tc 20 23 #[pg gL1,iU 16,iU 17] (rdl (lStake ⟨by decide,by decide⟩ ⟨by decide,by decide⟩ M8 (L:=640) (by decide +kernel) (by decide) (by decide)) (show sWorth T1 16 17=(10/3:Rat) by decide +kernel)) ?_
 rintro _ v11 ⟨aq10,kq10,dq10,bq10,lq10,eq10,rfl,Qq10,B⟩
 refine ⟨_,rfl,?_⟩
 replace BB:=joinB BB B
 replace Nn3:=Nn3.keep B
 replace Nn5:=Nn5.keep B
 replace M8:=M8.keep B
 refine ta 2 [zS,zS] 40 (pg) ?_
 intro v12 g13 Xg13 hg13 B
 have hkg13_K7:¬ K7 g13:=fun h=>absurd (M8.lt h) (Nat.not_lt.2 hg13)
 have hbg13:=Nat.le_trans BB.size hg13
 replace BB:=joinB BB B
 replace Nn3:=Nn3.keep B
 replace Nn5:=Nn5.keep B
 replace M8:=M8.keep B
 replace Qq10:=Qq10.keep B
 refine ts Xg13 0 (.agg #[.slice aq10 kq10 dq10,.slice bq10 lq10 eq10]) [.slice aq10 kq10 dq10,.slice bq10 lq10 eq10] [.slice aq10 kq10 dq10,.slice bq10 lq10 eq10] ?_
 intro v14 Y C
 replace BB:=belowC BB C (by omega)
 replace Nn3:=NatO.cg Nn3 Xg13 C (by rfl)
 replace Nn5:=NatO.cg Nn5 Xg13 C (by rfl)
 replace M8:=M8.off C (Lp.cg Xg13 C (by rfl)) (fun b h e=>hkg13_K7 (e▸h))
 replace Qq10:=Qq10.cg Xg13 C (by rfl)
 have Xg13:=Y
 refine gl_nil (ge_then (gc_fr [(0,bF),(1,pg gL1),(2,pg g13)] (gc_seq (gc_reg (t 21 (pg gL1) (tc 22 46 #[iU 3] (dOf (x:=3) (by decide) (by decide)) ?_))))))
 rintro _ v16 ⟨an15,kn15,dn15,rfl,Nn15,ln15,B⟩
 refine ⟨_,rfl,?_⟩
 replace BB:=joinB BB B
 replace Nn3:=Nn3.keep B
 replace Nn5:=Nn5.keep B
 replace M8:=M8.keep B
 replace Qq10:=Qq10.keep B
 replace Xg13:=Xg13.keep B
 refine tc 23 12 #[pg gL1,iU 16,.agg #[.slice an15 kn15 dn15],iU 10] (lGive ⟨by decide,by decide⟩ Nn15.a (by omega) ⟨by decide,by decide⟩ M8 (L:=640) (by decide +kernel) (by decide) (by decide)) ?_
 rintro _ v19 ⟨K17,rfl,M18,hK,C,P⟩
 refine ⟨_,rfl,?_⟩
 have hlo_K17:∀ b,K17 b->w.heap.size<=b:=fun b h=>(hK b h).elim (hlo_K7 b) (fun h=>Nat.le_trans BB.size h)
 have hkg13_K17:¬ K17 g13:=fun h=>(hK _ h).elim hkg13_K7 (fun h=>absurd Xg13.lt (Nat.not_lt.2 h))
 replace BB:=belowK BB C hlo_K7
 replace Nn3:=NatO.lp Nn3 P
 replace Nn5:=NatO.lp Nn5 P
 replace Qq10:=Qq10.lp P
 replace Xg13:=Xg13.chg C hkg13_K7
 replace Nn15:=NatO.lp Nn15 P
 clear hlo_K7 hkg13_K7 M8 hK C P
 replace M18:=(show Lm _ _ _ T2 from (show sGive T1 16 (3 * U36) 10=T2 by decide +kernel)▸M18)
 refine gl_nil (ge_then (gc_seq (gc_reg (t 24 (pg gL1) (tc 25 25 #[pg gL1,iU 16,iU 17] (rdl (lOwed ⟨by decide,by decide⟩ ⟨by decide,by decide⟩ M18 (L:=640) (by decide +kernel) (by decide) (by decide)) (show sOwed T2 16 17=1 by decide +kernel)) ?_)))))
 rintro _ v21 ⟨aq20,kq20,dq20,bq20,lq20,eq20,rfl,Qq20,B⟩
 refine ⟨_,rfl,?_⟩
 replace BB:=joinB BB B
 replace Nn3:=Nn3.keep B
 replace Nn5:=Nn5.keep B
 replace Qq10:=Qq10.keep B
 replace Xg13:=Xg13.keep B
 replace Nn15:=Nn15.keep B
 replace M18:=M18.keep B
 have lXg13:=Xg13.lt
 refine ta 3 [zS,zS] 40 (pg) ?_
 intro v22 g23 Xg23 hg23 B
 have hkg23_K17:¬ K17 g23:=fun h=>absurd (M18.lt h) (Nat.not_lt.2 hg23)
 have hbg23:=Nat.le_trans BB.size hg23
 replace BB:=joinB BB B
 replace Nn3:=Nn3.keep B
 replace Nn5:=Nn5.keep B
 replace Qq10:=Qq10.keep B
 replace Xg13:=Xg13.keep B
 replace Nn15:=Nn15.keep B
 replace M18:=M18.keep B
 replace Qq20:=Qq20.keep B
 refine ts Xg23 0 (.agg #[.slice aq20 kq20 dq20,.slice bq20 lq20 eq20]) [.slice aq20 kq20 dq20,.slice bq20 lq20 eq20] [.slice aq20 kq20 dq20,.slice bq20 lq20 eq20] ?_
 intro v24 Y C
 replace BB:=belowC BB C (by omega)
 replace Nn3:=NatO.cg Nn3 Xg23 C (by rfl)
 replace Nn5:=NatO.cg Nn5 Xg23 C (by rfl)
 replace Qq10:=Qq10.cg Xg23 C (by rfl)
 replace Xg13:=Xg13.chg C (show g13≠g23 by omega)
 replace Nn15:=NatO.cg Nn15 Xg23 C (by rfl)
 replace M18:=M18.off C (Lp.cg Xg23 C (by rfl)) (fun b h e=>hkg23_K17 (e▸h))
 replace Qq20:=Qq20.cg Xg23 C (by rfl)
 have Xg23:=Y
 refine gl_nil (ge_then (gc_seq (gc_reg (t 26 (pg gL1) (tc 27 21 #[pg gL1,iU 16,iU 10,iU 5] (lCut ⟨by decide,by decide⟩ ⟨by decide,by decide⟩ ⟨by decide,by decide⟩ M18 (L:=640) (by decide +kernel) (by decide) (by decide)) ?_)))))
 rintro _ v27 ⟨K25,rfl,M26,hK,C,P⟩
 refine ⟨_,rfl,?_⟩
 have hlo_K25:∀ b,K25 b->w.heap.size<=b:=fun b h=>(hK b h).elim (hlo_K17 b) (fun h=>Nat.le_trans BB.size h)
 have hkg13_K25:¬ K25 g13:=fun h=>(hK _ h).elim hkg13_K17 (fun h=>absurd Xg13.lt (Nat.not_lt.2 h))
 have hkg23_K25:¬ K25 g23:=fun h=>(hK _ h).elim hkg23_K17 (fun h=>absurd Xg23.lt (Nat.not_lt.2 h))
 replace BB:=belowK BB C hlo_K17
 replace Nn3:=NatO.lp Nn3 P
 replace Nn5:=NatO.lp Nn5 P
 replace Qq10:=Qq10.lp P
 replace Xg13:=Xg13.chg C hkg13_K17
 replace Nn15:=NatO.lp Nn15 P
 replace Qq20:=Qq20.lp P
 replace Xg23:=Xg23.chg C hkg23_K17
 clear hlo_K17 hkg13_K17 hkg23_K17 M18 hK C P
 replace M26:=(show Lm _ _ _ T3 from (show sCut T2 16 10 5=T3 by decide +kernel)▸M26)
 refine gl_nil (ge_then (gc_seq (gc_reg (t 28 (pg gL1) (tc 29 46 #[iU 1] (dOf (x:=1) (by decide) (by decide)) ?_)))))
 rintro _ v29 ⟨an28,kn28,dn28,rfl,Nn28,ln28,B⟩
 refine ⟨_,rfl,?_⟩
 replace BB:=joinB BB B
 replace Nn3:=Nn3.keep B
 replace Nn5:=Nn5.keep B
 replace Qq10:=Qq10.keep B
 replace Xg13:=Xg13.keep B
 replace Nn15:=Nn15.keep B
 replace Qq20:=Qq20.keep B
 replace Xg23:=Xg23.keep B
 replace M26:=M26.keep B
 refine tc 30 12 #[pg gL1,iU 16,.agg #[.slice an28 kn28 dn28],iU 5] (lGive ⟨by decide,by decide⟩ Nn28.a (by omega) ⟨by decide,by decide⟩ M26 (L:=640) (by decide +kernel) (by decide) (by decide)) ?_
 rintro _ v32 ⟨K30,rfl,M31,hK,C,P⟩
 refine ⟨_,rfl,?_⟩
 have hlo_K30:∀ b,K30 b->w.heap.size<=b:=fun b h=>(hK b h).elim (hlo_K25 b) (fun h=>Nat.le_trans BB.size h)
 have hkg13_K30:¬ K30 g13:=fun h=>(hK _ h).elim hkg13_K25 (fun h=>absurd Xg13.lt (Nat.not_lt.2 h))
 have hkg23_K30:¬ K30 g23:=fun h=>(hK _ h).elim hkg23_K25 (fun h=>absurd Xg23.lt (Nat.not_lt.2 h))
 replace BB:=belowK BB C hlo_K25
 replace Nn3:=NatO.lp Nn3 P
 replace Nn5:=NatO.lp Nn5 P
 replace Qq10:=Qq10.lp P
 replace Xg13:=Xg13.chg C hkg13_K25
 replace Nn15:=NatO.lp Nn15 P
 replace Qq20:=Qq20.lp P
 replace Xg23:=Xg23.chg C hkg23_K25
 replace Nn28:=NatO.lp Nn28 P
 clear hlo_K25 hkg13_K25 hkg23_K25 M26 hK C P
 replace M31:=(show Lm _ _ _ T4 from (show sGive T3 16 (1 * U36) 5=T4 by decide +kernel)▸M31)
 refine gl_nil (ge_then (gc_seq (gc_reg (t 32 (pg gL1) (tc 33 14 #[pg gL1,iU 16,iU 17] (setl (lSettle ⟨by decide,by decide⟩ ⟨by decide,by decide⟩ M31 (L:=640) (by decide +kernel) (by decide) (by decide)) (s:=(4/3:Rat)) (p':=2) (q':=1) (by decide +kernel) (by decide +kernel) (by decide +kernel)) ?_)))))
 rintro _ v36 ⟨aq35,kq35,dq35,bq35,lq35,eq35,K33,rfl,Qq35,M34,hK,C,P⟩
 refine ⟨_,rfl,?_⟩
 have hlo_K33:∀ b,K33 b->w.heap.size<=b:=fun b h=>(hK b h).elim (hlo_K30 b) (fun h=>Nat.le_trans BB.size h)
 have hkg13_K33:¬ K33 g13:=fun h=>(hK _ h).elim hkg13_K30 (fun h=>absurd Xg13.lt (Nat.not_lt.2 h))
 have hkg23_K33:¬ K33 g23:=fun h=>(hK _ h).elim hkg23_K30 (fun h=>absurd Xg23.lt (Nat.not_lt.2 h))
 replace BB:=belowK BB C hlo_K30
 replace Nn3:=NatO.lp Nn3 P
 replace Nn5:=NatO.lp Nn5 P
 replace Qq10:=Qq10.lp P
 replace Xg13:=Xg13.chg C hkg13_K30
 replace Nn15:=NatO.lp Nn15 P
 replace Qq20:=Qq20.lp P
 replace Xg23:=Xg23.chg C hkg23_K30
 replace Nn28:=NatO.lp Nn28 P
 clear hlo_K30 hkg13_K30 hkg23_K30 M31 hK C P
 replace M34:=(show Lm _ _ _ T5 from (show sClear (sTick T4 16) 16 17=T5 by decide +kernel)▸M34)
 refine t 31 (.tuple #[.agg #[.slice aq35 kq35 dq35,.slice bq35 lq35 eq35],iI 2,iI 1]) (t 34 (.agg #[.slice aq35 kq35 dq35,.slice bq35 lq35 eq35]) (t 35 (iI 2) (t 36 (iI 1) ?_)))
 have lXg13:=Xg13.lt
 have lXg23:=Xg23.lt
 refine ta 4 [zS,zS] 40 (pg) ?_
 intro v37 g38 Xg38 hg38 B
 have hkg38_K33:¬ K33 g38:=fun h=>absurd (M34.lt h) (Nat.not_lt.2 hg38)
 have hbg38:=Nat.le_trans BB.size hg38
 replace BB:=joinB BB B
 replace Nn3:=Nn3.keep B
 replace Nn5:=Nn5.keep B
 replace Qq10:=Qq10.keep B
 replace Xg13:=Xg13.keep B
 replace Nn15:=Nn15.keep B
 replace Qq20:=Qq20.keep B
 replace Xg23:=Xg23.keep B
 replace Nn28:=Nn28.keep B
 replace M34:=M34.keep B
 replace Qq35:=Qq35.keep B
 refine ts Xg38 0 (.agg #[.slice aq35 kq35 dq35,.slice bq35 lq35 eq35]) [.slice aq35 kq35 dq35,.slice bq35 lq35 eq35] [.slice aq35 kq35 dq35,.slice bq35 lq35 eq35] ?_
 intro v39 Y C
 replace BB:=belowC BB C (by omega)
 replace Nn3:=NatO.cg Nn3 Xg38 C (by rfl)
 replace Nn5:=NatO.cg Nn5 Xg38 C (by rfl)
 replace Qq10:=Qq10.cg Xg38 C (by rfl)
 replace Xg13:=Xg13.chg C (show g13≠g38 by omega)
 replace Nn15:=NatO.cg Nn15 Xg38 C (by rfl)
 replace Qq20:=Qq20.cg Xg38 C (by rfl)
 replace Xg23:=Xg23.chg C (show g23≠g38 by omega)
 replace Nn28:=NatO.cg Nn28 Xg38 C (by rfl)
 replace M34:=M34.off C (Lp.cg Xg38 C (by rfl)) (fun b h e=>hkg38_K33 (e▸h))
 replace Qq35:=Qq35.cg Xg38 C (by rfl)
 have Xg38:=Y
 refine t 5 (iI 2) (t 6 (iI 1) (gl_nil (ge_then (gc_fr [(0,bF),(1,pg gL1),(2,pg g13),(3,pg g23),(4,pg g38),(5,iI 2),(6,iI 1)] (gc_seq (gc_reg (t 38 (pg gL1) (tc 39 14 #[pg gL1,iU 16,iU 18] (setl (lSettle ⟨by decide,by decide⟩ ⟨by decide,by decide⟩ M34 (L:=640) (by decide +kernel) (by decide) (by decide)) (s:=(0:Rat)) (p':=0) (q':=0) (by decide +kernel) (by decide +kernel) (by decide +kernel)) ?_))))))))
 rintro _ v43 ⟨aq42,kq42,dq42,bq42,lq42,eq42,K40,rfl,Qq42,M41,hK,C,P⟩
 refine ⟨_,rfl,?_⟩
 have hlo_K40:∀ b,K40 b->w.heap.size<=b:=fun b h=>(hK b h).elim (hlo_K33 b) (fun h=>Nat.le_trans BB.size h)
 have hkg13_K40:¬ K40 g13:=fun h=>(hK _ h).elim hkg13_K33 (fun h=>absurd Xg13.lt (Nat.not_lt.2 h))
 have hkg23_K40:¬ K40 g23:=fun h=>(hK _ h).elim hkg23_K33 (fun h=>absurd Xg23.lt (Nat.not_lt.2 h))
 have hkg38_K40:¬ K40 g38:=fun h=>(hK _ h).elim hkg38_K33 (fun h=>absurd Xg38.lt (Nat.not_lt.2 h))
 replace BB:=belowK BB C hlo_K33
 replace Nn3:=NatO.lp Nn3 P
 replace Nn5:=NatO.lp Nn5 P
 replace Qq10:=Qq10.lp P
 replace Xg13:=Xg13.chg C hkg13_K33
 replace Nn15:=NatO.lp Nn15 P
 replace Qq20:=Qq20.lp P
 replace Xg23:=Xg23.chg C hkg23_K33
 replace Nn28:=NatO.lp Nn28 P
 replace Qq35:=Qq35.lp P
 replace Xg38:=Xg38.chg C hkg38_K33
 clear hlo_K33 hkg13_K33 hkg23_K33 hkg38_K33 M34 hK C P
 replace M41:=(show Lm _ _ _ T6 from (show sClear (sTick T5 16) 16 18=T6 by decide +kernel)▸M41)
 refine t 37 (.tuple #[.agg #[.slice aq42 kq42 dq42,.slice bq42 lq42 eq42],iI 0,iI 0]) (t 40 (.agg #[.slice aq42 kq42 dq42,.slice bq42 lq42 eq42]) (t 41 (iI 0) (t 42 (iI 0) ?_)))
 have lXg13:=Xg13.lt
 have lXg23:=Xg23.lt
 have lXg38:=Xg38.lt
 refine ta 7 [zS,zS] 40 (pg) ?_
 intro v44 g45 Xg45 hg45 B
 have hkg45_K40:¬ K40 g45:=fun h=>absurd (M41.lt h) (Nat.not_lt.2 hg45)
 have hbg45:=Nat.le_trans BB.size hg45
 replace BB:=joinB BB B
 replace Nn3:=Nn3.keep B
 replace Nn5:=Nn5.keep B
 replace Qq10:=Qq10.keep B
 replace Xg13:=Xg13.keep B
 replace Nn15:=Nn15.keep B
 replace Qq20:=Qq20.keep B
 replace Xg23:=Xg23.keep B
 replace Nn28:=Nn28.keep B
 replace Qq35:=Qq35.keep B
 replace Xg38:=Xg38.keep B
 replace M41:=M41.keep B
 replace Qq42:=Qq42.keep B
 refine ts Xg45 0 (.agg #[.slice aq42 kq42 dq42,.slice bq42 lq42 eq42]) [.slice aq42 kq42 dq42,.slice bq42 lq42 eq42] [.slice aq42 kq42 dq42,.slice bq42 lq42 eq42] ?_
 intro v46 Y C
 replace BB:=belowC BB C (by omega)
 replace Nn3:=NatO.cg Nn3 Xg45 C (by rfl)
 replace Nn5:=NatO.cg Nn5 Xg45 C (by rfl)
 replace Qq10:=Qq10.cg Xg45 C (by rfl)
 replace Xg13:=Xg13.chg C (show g13≠g45 by omega)
 replace Nn15:=NatO.cg Nn15 Xg45 C (by rfl)
 replace Qq20:=Qq20.cg Xg45 C (by rfl)
 replace Xg23:=Xg23.chg C (show g23≠g45 by omega)
 replace Nn28:=NatO.cg Nn28 Xg45 C (by rfl)
 replace Qq35:=Qq35.cg Xg45 C (by rfl)
 replace Xg38:=Xg38.chg C (show g38≠g45 by omega)
 replace M41:=M41.off C (Lp.cg Xg45 C (by rfl)) (fun b h e=>hkg45_K40 (e▸h))
 replace Qq42:=Qq42.cg Xg45 C (by rfl)
 have Xg45:=Y
 refine t 8 (iI 0) (t 9 (iI 0) (gl_nil (ge_then (gc_seq (gc_reg (tc 44 48 #[.string { data:=#[48,46,51,51] }] (parse33) ?_))))))
 rintro _ v48 ⟨an47,kn47,dn47,rfl,Nn47,ln47,B⟩
 refine ⟨_,rfl,?_⟩
 replace BB:=joinB BB B
 replace Nn3:=Nn3.keep B
 replace Nn5:=Nn5.keep B
 replace Qq10:=Qq10.keep B
 replace Xg13:=Xg13.keep B
 replace Nn15:=Nn15.keep B
 replace Qq20:=Qq20.keep B
 replace Xg23:=Xg23.keep B
 replace Nn28:=Nn28.keep B
 replace Qq35:=Qq35.keep B
 replace Xg38:=Xg38.keep B
 replace M41:=M41.keep B
 replace Qq42:=Qq42.keep B
 replace Xg45:=Xg45.keep B
 refine t 43 (.tuple #[.agg #[.slice an47 kn47 dn47],iI 0]) (t 45 (.agg #[.slice an47 kn47 dn47]) (t 46 (iI 0) ?_))
 have lXg13:=Xg13.lt
 have lXg23:=Xg23.lt
 have lXg38:=Xg38.lt
 have lXg45:=Xg45.lt
 refine ta 10 [zS] 35 (pg) ?_
 intro v49 g50 Xg50 hg50 B
 have hkg50_K40:¬ K40 g50:=fun h=>absurd (M41.lt h) (Nat.not_lt.2 hg50)
 have hbg50:=Nat.le_trans BB.size hg50
 replace BB:=joinB BB B
 replace Nn3:=Nn3.keep B
 replace Nn5:=Nn5.keep B
 replace Qq10:=Qq10.keep B
 replace Xg13:=Xg13.keep B
 replace Nn15:=Nn15.keep B
 replace Qq20:=Qq20.keep B
 replace Xg23:=Xg23.keep B
 replace Nn28:=Nn28.keep B
 replace Qq35:=Qq35.keep B
 replace Xg38:=Xg38.keep B
 replace M41:=M41.keep B
 replace Qq42:=Qq42.keep B
 replace Xg45:=Xg45.keep B
 replace Nn47:=Nn47.keep B
 refine ts Xg50 0 (.agg #[.slice an47 kn47 dn47]) [.slice an47 kn47 dn47] [.slice an47 kn47 dn47] ?_
 intro v51 Y C
 replace BB:=belowC BB C (by omega)
 replace Nn3:=NatO.cg Nn3 Xg50 C (by rfl)
 replace Nn5:=NatO.cg Nn5 Xg50 C (by rfl)
 replace Qq10:=Qq10.cg Xg50 C (by rfl)
 replace Xg13:=Xg13.chg C (show g13≠g50 by omega)
 replace Nn15:=NatO.cg Nn15 Xg50 C (by rfl)
 replace Qq20:=Qq20.cg Xg50 C (by rfl)
 replace Xg23:=Xg23.chg C (show g23≠g50 by omega)
 replace Nn28:=NatO.cg Nn28 Xg50 C (by rfl)
 replace Qq35:=Qq35.cg Xg50 C (by rfl)
 replace Xg38:=Xg38.chg C (show g38≠g50 by omega)
 replace M41:=M41.off C (Lp.cg Xg50 C (by rfl)) (fun b h e=>hkg50_K40 (e▸h))
 replace Qq42:=Qq42.cg Xg50 C (by rfl)
 replace Xg45:=Xg45.chg C (show g45≠g50 by omega)
 replace Nn47:=NatO.cg Nn47 Xg50 C (by rfl)
 have Xg50:=Y
 refine t 11 (iI 0) (gl_nil (ge_then (gc_fr [(0,bF),(1,pg gL1),(2,pg g13),(3,pg g23),(4,pg g38),(5,iI 2),(6,iI 1),(7,pg g45),(8,iI 0),(9,iI 0),(10,pg g50)] (gc_seq (gc_seq ?_)))))
 replace BB:=BB.drew
 replace Nn3:=Nn3.keep (Below.refl _ _).drew
 replace Nn5:=Nn5.keep (Below.refl _ _).drew
 replace Qq10:=Qq10.drew
 replace Xg13:=Xg13.drew
 replace Nn15:=Nn15.keep (Below.refl _ _).drew
 replace Qq20:=Qq20.drew
 replace Xg23:=Xg23.drew
 replace Nn28:=Nn28.keep (Below.refl _ _).drew
 replace Qq35:=Qq35.drew
 replace Xg38:=Xg38.drew
 replace M41:=M41.drew
 replace Qq42:=Qq42.drew
 replace Xg45:=Xg45.drew
 replace Nn47:=Nn47.keep (Below.refl _ _).drew
 replace Xg50:=Xg50.drew
 refine gc_draw (fun w'=>Blk w' g13 [.slice aq10 kq10 dq10,.slice bq10 lq10 eq10] 40/\Blk w' g23 [.slice aq20 kq20 dq20,.slice bq20 lq20 eq20] 40/\Blk w' g38 [.slice aq35 kq35 dq35,.slice bq35 lq35 eq35] 40/\Blk w' g45 [.slice aq42 kq42 dq42,.slice bq42 lq42 eq42] 40) (fun _=>false) ⟨Xg13,Xg23,Xg38,Xg45⟩ ?_
 refine zlr 0 47 [.slice aq10 kq10 dq10,.slice bq10 lq10 eq10] (fun _ h=>h.1) 0 (zc 1 48 42 #[iU 10,iU 3] (frac_any (n:=10) (d:=3) ⟨by decide,by decide⟩ ⟨by decide,by decide⟩ (by decide)) ?_)
 rintro _ v53 ⟨aq52,kq52,dq52,bq52,lq52,eq52,rfl,Qq52,B⟩
 replace BB:=joinB BB B
 replace Nn3:=Nn3.keep B
 replace Nn5:=Nn5.keep B
 replace Qq10:=Qq10.keep B
 replace Xg13:=Xg13.keep B
 replace Nn15:=Nn15.keep B
 replace Qq20:=Qq20.keep B
 replace Xg23:=Xg23.keep B
 replace Nn28:=Nn28.keep B
 replace Qq35:=Qq35.keep B
 replace Xg38:=Xg38.keep B
 replace M41:=M41.keep B
 replace Qq42:=Qq42.keep B
 replace Xg45:=Xg45.keep B
 replace Nn47:=Nn47.keep B
 replace Xg50:=Xg50.keep B
 refine ⟨_,rfl,⟨Xg13,Xg23,Xg38,Xg45⟩,?_⟩
 refine zc 2 49 16 #[.agg #[.slice aq10 kq10 dq10,.slice bq10 lq10 eq10],.agg #[.slice aq52 kq52 dq52,.slice bq52 lq52 eq52]] (pSameL (B:=10) Qq10 Qq52 (by decide +kernel) (by decide +kernel) (by decide) (t:=true) (by decide +kernel)) ?_
 rintro _ v54 ⟨rfl,B⟩
 replace BB:=joinB BB B
 replace Nn3:=Nn3.keep B
 replace Nn5:=Nn5.keep B
 replace Qq10:=Qq10.keep B
 replace Xg13:=Xg13.keep B
 replace Nn15:=Nn15.keep B
 replace Qq20:=Qq20.keep B
 replace Xg23:=Xg23.keep B
 replace Nn28:=Nn28.keep B
 replace Qq35:=Qq35.keep B
 replace Xg38:=Xg38.keep B
 replace M41:=M41.keep B
 replace Qq42:=Qq42.keep B
 replace Xg45:=Xg45.keep B
 replace Nn47:=Nn47.keep B
 replace Xg50:=Xg50.keep B
 replace Qq52:=Qq52.keep B
 refine ⟨_,rfl,⟨Xg13,Xg23,Xg38,Xg45⟩,?_⟩
 refine z 3 50 (bF) (z 4 51 (bF) (zlr 5 52 [.slice aq20 kq20 dq20,.slice bq20 lq20 eq20] (fun _ h=>h.2.1) 0 (zc 6 53 42 #[iU 1,iU 1] (frac_any (n:=1) (d:=1) ⟨by decide,by decide⟩ ⟨by decide,by decide⟩ (by decide)) ?_)))
 rintro _ v56 ⟨aq55,kq55,dq55,bq55,lq55,eq55,rfl,Qq55,B⟩
 replace BB:=joinB BB B
 replace Nn3:=Nn3.keep B
 replace Nn5:=Nn5.keep B
 replace Qq10:=Qq10.keep B
 replace Xg13:=Xg13.keep B
 replace Nn15:=Nn15.keep B
 replace Qq20:=Qq20.keep B
 replace Xg23:=Xg23.keep B
 replace Nn28:=Nn28.keep B
 replace Qq35:=Qq35.keep B
 replace Xg38:=Xg38.keep B
 replace M41:=M41.keep B
 replace Qq42:=Qq42.keep B
 replace Xg45:=Xg45.keep B
 replace Nn47:=Nn47.keep B
 replace Xg50:=Xg50.keep B
 replace Qq52:=Qq52.keep B
 refine ⟨_,rfl,⟨Xg13,Xg23,Xg38,Xg45⟩,?_⟩
 refine zc 7 54 16 #[.agg #[.slice aq20 kq20 dq20,.slice bq20 lq20 eq20],.agg #[.slice aq55 kq55 dq55,.slice bq55 lq55 eq55]] (pSameL (B:=10) Qq20 Qq55 (by decide +kernel) (by decide +kernel) (by decide) (t:=true) (by decide +kernel)) ?_
 rintro _ v57 ⟨rfl,B⟩
 replace BB:=joinB BB B
 replace Nn3:=Nn3.keep B
 replace Nn5:=Nn5.keep B
 replace Qq10:=Qq10.keep B
 replace Xg13:=Xg13.keep B
 replace Nn15:=Nn15.keep B
 replace Qq20:=Qq20.keep B
 replace Xg23:=Xg23.keep B
 replace Nn28:=Nn28.keep B
 replace Qq35:=Qq35.keep B
 replace Xg38:=Xg38.keep B
 replace M41:=M41.keep B
 replace Qq42:=Qq42.keep B
 replace Xg45:=Xg45.keep B
 replace Nn47:=Nn47.keep B
 replace Xg50:=Xg50.keep B
 replace Qq52:=Qq52.keep B
 replace Qq55:=Qq55.keep B
 refine ⟨_,rfl,⟨Xg13,Xg23,Xg38,Xg45⟩,?_⟩
 refine z 8 55 (bF) (z 9 56 (bF) (z 10 57 (bF) (z 11 58 (pg gL1) ?_)))
 refine zc 12 59 27 #[pg gL1,iU 16] (rdl (lStakes ⟨by decide,by decide⟩ M41 (L:=640) (by decide +kernel) (by decide) (by decide)) (show sStakes T6 16=(5/3:Rat) by decide +kernel)) ?_
 rintro _ v59 ⟨aq58,kq58,dq58,bq58,lq58,eq58,rfl,Qq58,B⟩
 replace BB:=joinB BB B
 replace Nn3:=Nn3.keep B
 replace Nn5:=Nn5.keep B
 replace Qq10:=Qq10.keep B
 replace Xg13:=Xg13.keep B
 replace Nn15:=Nn15.keep B
 replace Qq20:=Qq20.keep B
 replace Xg23:=Xg23.keep B
 replace Nn28:=Nn28.keep B
 replace Qq35:=Qq35.keep B
 replace Xg38:=Xg38.keep B
 replace M41:=M41.keep B
 replace Qq42:=Qq42.keep B
 replace Xg45:=Xg45.keep B
 replace Nn47:=Nn47.keep B
 replace Xg50:=Xg50.keep B
 replace Qq52:=Qq52.keep B
 replace Qq55:=Qq55.keep B
 refine ⟨_,rfl,⟨Xg13,Xg23,Xg38,Xg45⟩,?_⟩
 refine zc 13 60 42 #[iU 5,iU 3] (frac_any (n:=5) (d:=3) ⟨by decide,by decide⟩ ⟨by decide,by decide⟩ (by decide)) ?_
 rintro _ v61 ⟨aq60,kq60,dq60,bq60,lq60,eq60,rfl,Qq60,B⟩
 replace BB:=joinB BB B
 replace Nn3:=Nn3.keep B
 replace Nn5:=Nn5.keep B
 replace Qq10:=Qq10.keep B
 replace Xg13:=Xg13.keep B
 replace Nn15:=Nn15.keep B
 replace Qq20:=Qq20.keep B
 replace Xg23:=Xg23.keep B
 replace Nn28:=Nn28.keep B
 replace Qq35:=Qq35.keep B
 replace Xg38:=Xg38.keep B
 replace M41:=M41.keep B
 replace Qq42:=Qq42.keep B
 replace Xg45:=Xg45.keep B
 replace Nn47:=Nn47.keep B
 replace Xg50:=Xg50.keep B
 replace Qq52:=Qq52.keep B
 replace Qq55:=Qq55.keep B
 replace Qq58:=Qq58.keep B
 refine ⟨_,rfl,⟨Xg13,Xg23,Xg38,Xg45⟩,?_⟩
 refine zc 14 61 16 #[.agg #[.slice aq58 kq58 dq58,.slice bq58 lq58 eq58],.agg #[.slice aq60 kq60 dq60,.slice bq60 lq60 eq60]] (pSameL (B:=10) Qq58 Qq60 (by decide +kernel) (by decide +kernel) (by decide) (t:=true) (by decide +kernel)) ?_
 rintro _ v62 ⟨rfl,B⟩
 replace BB:=joinB BB B
 replace Nn3:=Nn3.keep B
 replace Nn5:=Nn5.keep B
 replace Qq10:=Qq10.keep B
 replace Xg13:=Xg13.keep B
 replace Nn15:=Nn15.keep B
 replace Qq20:=Qq20.keep B
 replace Xg23:=Xg23.keep B
 replace Nn28:=Nn28.keep B
 replace Qq35:=Qq35.keep B
 replace Xg38:=Xg38.keep B
 replace M41:=M41.keep B
 replace Qq42:=Qq42.keep B
 replace Xg45:=Xg45.keep B
 replace Nn47:=Nn47.keep B
 replace Xg50:=Xg50.keep B
 replace Qq52:=Qq52.keep B
 replace Qq55:=Qq55.keep B
 replace Qq58:=Qq58.keep B
 replace Qq60:=Qq60.keep B
 refine ⟨_,rfl,⟨Xg13,Xg23,Xg38,Xg45⟩,?_⟩
 refine z 15 62 (bF) (z 16 63 (bF) (z 17 64 (bF) (zlr 18 65 [.slice aq35 kq35 dq35,.slice bq35 lq35 eq35] (fun _ h=>h.2.2.1) 0 (zc 19 66 42 #[iU 4,iU 3] (frac_any (n:=4) (d:=3) ⟨by decide,by decide⟩ ⟨by decide,by decide⟩ (by decide)) ?_))))
 rintro _ v64 ⟨aq63,kq63,dq63,bq63,lq63,eq63,rfl,Qq63,B⟩
 replace BB:=joinB BB B
 replace Nn3:=Nn3.keep B
 replace Nn5:=Nn5.keep B
 replace Qq10:=Qq10.keep B
 replace Xg13:=Xg13.keep B
 replace Nn15:=Nn15.keep B
 replace Qq20:=Qq20.keep B
 replace Xg23:=Xg23.keep B
 replace Nn28:=Nn28.keep B
 replace Qq35:=Qq35.keep B
 replace Xg38:=Xg38.keep B
 replace M41:=M41.keep B
 replace Qq42:=Qq42.keep B
 replace Xg45:=Xg45.keep B
 replace Nn47:=Nn47.keep B
 replace Xg50:=Xg50.keep B
 replace Qq52:=Qq52.keep B
 replace Qq55:=Qq55.keep B
 replace Qq58:=Qq58.keep B
 replace Qq60:=Qq60.keep B
 refine ⟨_,rfl,⟨Xg13,Xg23,Xg38,Xg45⟩,?_⟩
 refine zc 20 67 16 #[.agg #[.slice aq35 kq35 dq35,.slice bq35 lq35 eq35],.agg #[.slice aq63 kq63 dq63,.slice bq63 lq63 eq63]] (pSameL (B:=10) Qq35 Qq63 (by decide +kernel) (by decide +kernel) (by decide) (t:=true) (by decide +kernel)) ?_
 rintro _ v65 ⟨rfl,B⟩
 replace BB:=joinB BB B
 replace Nn3:=Nn3.keep B
 replace Nn5:=Nn5.keep B
 replace Qq10:=Qq10.keep B
 replace Xg13:=Xg13.keep B
 replace Nn15:=Nn15.keep B
 replace Qq20:=Qq20.keep B
 replace Xg23:=Xg23.keep B
 replace Nn28:=Nn28.keep B
 replace Qq35:=Qq35.keep B
 replace Xg38:=Xg38.keep B
 replace M41:=M41.keep B
 replace Qq42:=Qq42.keep B
 replace Xg45:=Xg45.keep B
 replace Nn47:=Nn47.keep B
 replace Xg50:=Xg50.keep B
 replace Qq52:=Qq52.keep B
 replace Qq55:=Qq55.keep B
 replace Qq58:=Qq58.keep B
 replace Qq60:=Qq60.keep B
 replace Qq63:=Qq63.keep B
 refine ⟨_,rfl,⟨Xg13,Xg23,Xg38,Xg45⟩,?_⟩
 refine z 21 68 (bF) (z 22 69 (bF) (z 23 70 (bF) (z 24 71 (iI 2) (z 25 72 (bF) (z 26 73 (bF) (z 27 74 (bF) (z 28 75 (iI 1) (z 29 76 (bF) (z 30 77 (bF) (z 31 78 (bF) (zlr 32 79 [.slice aq42 kq42 dq42,.slice bq42 lq42 eq42] (fun _ h=>h.2.2.2) 0 (zc 33 80 42 #[iU 0,iU 1] (frac_any (n:=0) (d:=1) ⟨by decide,by decide⟩ ⟨by decide,by decide⟩ (by decide)) ?_))))))))))))
 rintro _ v67 ⟨aq66,kq66,dq66,bq66,lq66,eq66,rfl,Qq66,B⟩
 replace BB:=joinB BB B
 replace Nn3:=Nn3.keep B
 replace Nn5:=Nn5.keep B
 replace Qq10:=Qq10.keep B
 replace Xg13:=Xg13.keep B
 replace Nn15:=Nn15.keep B
 replace Qq20:=Qq20.keep B
 replace Xg23:=Xg23.keep B
 replace Nn28:=Nn28.keep B
 replace Qq35:=Qq35.keep B
 replace Xg38:=Xg38.keep B
 replace M41:=M41.keep B
 replace Qq42:=Qq42.keep B
 replace Xg45:=Xg45.keep B
 replace Nn47:=Nn47.keep B
 replace Xg50:=Xg50.keep B
 replace Qq52:=Qq52.keep B
 replace Qq55:=Qq55.keep B
 replace Qq58:=Qq58.keep B
 replace Qq60:=Qq60.keep B
 replace Qq63:=Qq63.keep B
 refine ⟨_,rfl,⟨Xg13,Xg23,Xg38,Xg45⟩,?_⟩
 refine zc 34 81 16 #[.agg #[.slice aq42 kq42 dq42,.slice bq42 lq42 eq42],.agg #[.slice aq66 kq66 dq66,.slice bq66 lq66 eq66]] (pSameL (B:=10) Qq42 Qq66 (by decide +kernel) (by decide +kernel) (by decide) (t:=true) (by decide +kernel)) ?_
 rintro _ v68 ⟨rfl,B⟩
 replace BB:=joinB BB B
 replace Nn3:=Nn3.keep B
 replace Nn5:=Nn5.keep B
 replace Qq10:=Qq10.keep B
 replace Xg13:=Xg13.keep B
 replace Nn15:=Nn15.keep B
 replace Qq20:=Qq20.keep B
 replace Xg23:=Xg23.keep B
 replace Nn28:=Nn28.keep B
 replace Qq35:=Qq35.keep B
 replace Xg38:=Xg38.keep B
 replace M41:=M41.keep B
 replace Qq42:=Qq42.keep B
 replace Xg45:=Xg45.keep B
 replace Nn47:=Nn47.keep B
 replace Xg50:=Xg50.keep B
 replace Qq52:=Qq52.keep B
 replace Qq55:=Qq55.keep B
 replace Qq58:=Qq58.keep B
 replace Qq60:=Qq60.keep B
 replace Qq63:=Qq63.keep B
 replace Qq66:=Qq66.keep B
 refine ⟨_,rfl,⟨Xg13,Xg23,Xg38,Xg45⟩,?_⟩
 refine z 35 82 (bF) (z 36 83 (bF) (z 37 84 (bF) (z 38 85 (iI 0) (z 39 86 (bF) (z 40 87 (bF) (z 41 88 (bF) (z 42 89 (iI 0) (z 43 90 (bF) (z 44 91 (bF) (z 45 92 (bF) (z 46 93 (pg gL1) (zc 47 94 29 #[pg gL1,iU 16] (rdl (lOwes ⟨by decide,by decide⟩ M41 (L:=640) (by decide +kernel) (by decide) (by decide)) (show sOwes T6 16=0 by decide +kernel)) ?_))))))))))))
 rintro _ v70 ⟨aq69,kq69,dq69,bq69,lq69,eq69,rfl,Qq69,B⟩
 replace BB:=joinB BB B
 replace Nn3:=Nn3.keep B
 replace Nn5:=Nn5.keep B
 replace Qq10:=Qq10.keep B
 replace Xg13:=Xg13.keep B
 replace Nn15:=Nn15.keep B
 replace Qq20:=Qq20.keep B
 replace Xg23:=Xg23.keep B
 replace Nn28:=Nn28.keep B
 replace Qq35:=Qq35.keep B
 replace Xg38:=Xg38.keep B
 replace M41:=M41.keep B
 replace Qq42:=Qq42.keep B
 replace Xg45:=Xg45.keep B
 replace Nn47:=Nn47.keep B
 replace Xg50:=Xg50.keep B
 replace Qq52:=Qq52.keep B
 replace Qq55:=Qq55.keep B
 replace Qq58:=Qq58.keep B
 replace Qq60:=Qq60.keep B
 replace Qq63:=Qq63.keep B
 replace Qq66:=Qq66.keep B
 refine ⟨_,rfl,⟨Xg13,Xg23,Xg38,Xg45⟩,?_⟩
 refine zc 48 95 42 #[iU 0,iU 1] (frac_any (n:=0) (d:=1) ⟨by decide,by decide⟩ ⟨by decide,by decide⟩ (by decide)) ?_
 rintro _ v72 ⟨aq71,kq71,dq71,bq71,lq71,eq71,rfl,Qq71,B⟩
 replace BB:=joinB BB B
 replace Nn3:=Nn3.keep B
 replace Nn5:=Nn5.keep B
 replace Qq10:=Qq10.keep B
 replace Xg13:=Xg13.keep B
 replace Nn15:=Nn15.keep B
 replace Qq20:=Qq20.keep B
 replace Xg23:=Xg23.keep B
 replace Nn28:=Nn28.keep B
 replace Qq35:=Qq35.keep B
 replace Xg38:=Xg38.keep B
 replace M41:=M41.keep B
 replace Qq42:=Qq42.keep B
 replace Xg45:=Xg45.keep B
 replace Nn47:=Nn47.keep B
 replace Xg50:=Xg50.keep B
 replace Qq52:=Qq52.keep B
 replace Qq55:=Qq55.keep B
 replace Qq58:=Qq58.keep B
 replace Qq60:=Qq60.keep B
 replace Qq63:=Qq63.keep B
 replace Qq66:=Qq66.keep B
 replace Qq69:=Qq69.keep B
 refine ⟨_,rfl,⟨Xg13,Xg23,Xg38,Xg45⟩,?_⟩
 refine zc 49 96 16 #[.agg #[.slice aq69 kq69 dq69,.slice bq69 lq69 eq69],.agg #[.slice aq71 kq71 dq71,.slice bq71 lq71 eq71]] (pSameL (B:=10) Qq69 Qq71 (by decide +kernel) (by decide +kernel) (by decide) (t:=true) (by decide +kernel)) ?_
 rintro _ v73 ⟨rfl,B⟩
 replace BB:=joinB BB B
 replace Nn3:=Nn3.keep B
 replace Nn5:=Nn5.keep B
 replace Qq10:=Qq10.keep B
 replace Xg13:=Xg13.keep B
 replace Nn15:=Nn15.keep B
 replace Qq20:=Qq20.keep B
 replace Xg23:=Xg23.keep B
 replace Nn28:=Nn28.keep B
 replace Qq35:=Qq35.keep B
 replace Xg38:=Xg38.keep B
 replace M41:=M41.keep B
 replace Qq42:=Qq42.keep B
 replace Xg45:=Xg45.keep B
 replace Nn47:=Nn47.keep B
 replace Xg50:=Xg50.keep B
 replace Qq52:=Qq52.keep B
 replace Qq55:=Qq55.keep B
 replace Qq58:=Qq58.keep B
 replace Qq60:=Qq60.keep B
 replace Qq63:=Qq63.keep B
 replace Qq66:=Qq66.keep B
 replace Qq69:=Qq69.keep B
 replace Qq71:=Qq71.keep B
 refine ⟨_,rfl,⟨Xg13,Xg23,Xg38,Xg45⟩,?_⟩
 refine z 50 97 (bF) (z 51 98 (bF) (gz_done (ge_then (gc_fr [(0,bF),(1,pg gL1),(4,pg g38),(10,pg g50),(98,bF)] (gc_no (gc_skip (ge_then (gc_seq (gc_reg (t 99 (pg gL1) (tc 100 19 #[pg gL1,iU 16,iU 17] (lDrop ⟨by decide,by decide⟩ ⟨by decide,by decide⟩ M41 (L:=640) (by decide +kernel) (by decide) (by decide)) ?_)))))))))))
 rintro _ v76 ⟨K74,rfl,M75,hK,C,P⟩
 refine ⟨_,rfl,?_⟩
 have hlo_K74:∀ b,K74 b->w.heap.size<=b:=fun b h=>(hK b h).elim (hlo_K40 b) (fun h=>Nat.le_trans BB.size h)
 have hkg13_K74:¬ K74 g13:=fun h=>(hK _ h).elim hkg13_K40 (fun h=>absurd Xg13.lt (Nat.not_lt.2 h))
 have hkg23_K74:¬ K74 g23:=fun h=>(hK _ h).elim hkg23_K40 (fun h=>absurd Xg23.lt (Nat.not_lt.2 h))
 have hkg38_K74:¬ K74 g38:=fun h=>(hK _ h).elim hkg38_K40 (fun h=>absurd Xg38.lt (Nat.not_lt.2 h))
 have hkg45_K74:¬ K74 g45:=fun h=>(hK _ h).elim hkg45_K40 (fun h=>absurd Xg45.lt (Nat.not_lt.2 h))
 have hkg50_K74:¬ K74 g50:=fun h=>(hK _ h).elim hkg50_K40 (fun h=>absurd Xg50.lt (Nat.not_lt.2 h))
 replace BB:=belowK BB C hlo_K40
 replace Nn3:=NatO.lp Nn3 P
 replace Nn5:=NatO.lp Nn5 P
 replace Qq10:=Qq10.lp P
 replace Xg13:=Xg13.chg C hkg13_K40
 replace Nn15:=NatO.lp Nn15 P
 replace Qq20:=Qq20.lp P
 replace Xg23:=Xg23.chg C hkg23_K40
 replace Nn28:=NatO.lp Nn28 P
 replace Qq35:=Qq35.lp P
 replace Xg38:=Xg38.chg C hkg38_K40
 replace Qq42:=Qq42.lp P
 replace Xg45:=Xg45.chg C hkg45_K40
 replace Nn47:=NatO.lp Nn47 P
 replace Xg50:=Xg50.chg C hkg50_K40
 replace Qq52:=Qq52.lp P
 replace Qq55:=Qq55.lp P
 replace Qq58:=Qq58.lp P
 replace Qq60:=Qq60.lp P
 replace Qq63:=Qq63.lp P
 replace Qq66:=Qq66.lp P
 replace Qq69:=Qq69.lp P
 replace Qq71:=Qq71.lp P
 clear hlo_K40 hkg13_K40 hkg23_K40 hkg38_K40 hkg45_K40 hkg50_K40 M41 hK C P
 replace M75:=(show Lm _ _ _ T7 from (show sDrop T6 16 17=T7 by decide +kernel)▸M75)
 refine gl_nil (ge_then (gc_seq (gc_reg (t 101 (pg gL1) (tc 102 23 #[pg gL1,iU 16,iU 17] (rdl (lStake ⟨by decide,by decide⟩ ⟨by decide,by decide⟩ M75 (L:=640) (by decide +kernel) (by decide) (by decide)) (show sWorth T7 16 17=0 by decide +kernel)) ?_)))))
 rintro _ v78 ⟨aq77,kq77,dq77,bq77,lq77,eq77,rfl,Qq77,B⟩
 refine ⟨_,rfl,?_⟩
 replace BB:=joinB BB B
 replace Nn3:=Nn3.keep B
 replace Nn5:=Nn5.keep B
 replace Qq10:=Qq10.keep B
 replace Xg13:=Xg13.keep B
 replace Nn15:=Nn15.keep B
 replace Qq20:=Qq20.keep B
 replace Xg23:=Xg23.keep B
 replace Nn28:=Nn28.keep B
 replace Qq35:=Qq35.keep B
 replace Xg38:=Xg38.keep B
 replace Qq42:=Qq42.keep B
 replace Xg45:=Xg45.keep B
 replace Nn47:=Nn47.keep B
 replace Xg50:=Xg50.keep B
 replace Qq52:=Qq52.keep B
 replace Qq55:=Qq55.keep B
 replace Qq58:=Qq58.keep B
 replace Qq60:=Qq60.keep B
 replace Qq63:=Qq63.keep B
 replace Qq66:=Qq66.keep B
 replace Qq69:=Qq69.keep B
 replace Qq71:=Qq71.keep B
 replace M75:=M75.keep B
 refine tc 103 42 #[iU 0,iU 1] (frac_any (n:=0) (d:=1) ⟨by decide,by decide⟩ ⟨by decide,by decide⟩ (by decide)) ?_
 rintro _ v80 ⟨aq79,kq79,dq79,bq79,lq79,eq79,rfl,Qq79,B⟩
 refine ⟨_,rfl,?_⟩
 replace BB:=joinB BB B
 replace Nn3:=Nn3.keep B
 replace Nn5:=Nn5.keep B
 replace Qq10:=Qq10.keep B
 replace Xg13:=Xg13.keep B
 replace Nn15:=Nn15.keep B
 replace Qq20:=Qq20.keep B
 replace Xg23:=Xg23.keep B
 replace Nn28:=Nn28.keep B
 replace Qq35:=Qq35.keep B
 replace Xg38:=Xg38.keep B
 replace Qq42:=Qq42.keep B
 replace Xg45:=Xg45.keep B
 replace Nn47:=Nn47.keep B
 replace Xg50:=Xg50.keep B
 replace Qq52:=Qq52.keep B
 replace Qq55:=Qq55.keep B
 replace Qq58:=Qq58.keep B
 replace Qq60:=Qq60.keep B
 replace Qq63:=Qq63.keep B
 replace Qq66:=Qq66.keep B
 replace Qq69:=Qq69.keep B
 replace Qq71:=Qq71.keep B
 replace M75:=M75.keep B
 replace Qq77:=Qq77.keep B
 refine tc 104 16 #[.agg #[.slice aq77 kq77 dq77,.slice bq77 lq77 eq77],.agg #[.slice aq79 kq79 dq79,.slice bq79 lq79 eq79]] (pSameL (B:=10) Qq77 Qq79 (by decide +kernel) (by decide +kernel) (by decide) (t:=true) (by decide +kernel)) ?_
 rintro _ v81 ⟨rfl,B⟩
 refine ⟨_,rfl,?_⟩
 replace BB:=joinB BB B
 replace Nn3:=Nn3.keep B
 replace Nn5:=Nn5.keep B
 replace Qq10:=Qq10.keep B
 replace Xg13:=Xg13.keep B
 replace Nn15:=Nn15.keep B
 replace Qq20:=Qq20.keep B
 replace Xg23:=Xg23.keep B
 replace Nn28:=Nn28.keep B
 replace Qq35:=Qq35.keep B
 replace Xg38:=Xg38.keep B
 replace Qq42:=Qq42.keep B
 replace Xg45:=Xg45.keep B
 replace Nn47:=Nn47.keep B
 replace Xg50:=Xg50.keep B
 replace Qq52:=Qq52.keep B
 replace Qq55:=Qq55.keep B
 replace Qq58:=Qq58.keep B
 replace Qq60:=Qq60.keep B
 replace Qq63:=Qq63.keep B
 replace Qq66:=Qq66.keep B
 replace Qq69:=Qq69.keep B
 replace Qq71:=Qq71.keep B
 replace M75:=M75.keep B
 replace Qq77:=Qq77.keep B
 replace Qq79:=Qq79.keep B
 refine t 105 (bT) (tlr 106 [.slice aq35 kq35 dq35,.slice bq35 lq35 eq35] Xg38 0 (tlr 107 [.slice an47 kn47 dn47] Xg50 0 (tc 108 31 #[.agg #[.slice aq35 kq35 dq35,.slice bq35 lq35 eq35],iU 1,.agg #[.slice an47 kn47 dn47],iI 0,iI 0] (fitl (pFits (Qq35.v (by decide +kernel)) ⟨by decide,by decide⟩ Nn47.a (by omega) (by decide) (by decide)) (t:=false) (by decide +kernel)) ?_)))
 rintro _ v82 ⟨rfl,B⟩
 refine ⟨_,rfl,?_⟩
 replace BB:=joinB BB B
 replace Nn3:=Nn3.keep B
 replace Nn5:=Nn5.keep B
 replace Qq10:=Qq10.keep B
 replace Xg13:=Xg13.keep B
 replace Nn15:=Nn15.keep B
 replace Qq20:=Qq20.keep B
 replace Xg23:=Xg23.keep B
 replace Nn28:=Nn28.keep B
 replace Qq35:=Qq35.keep B
 replace Xg38:=Xg38.keep B
 replace Qq42:=Qq42.keep B
 replace Xg45:=Xg45.keep B
 replace Nn47:=Nn47.keep B
 replace Xg50:=Xg50.keep B
 replace Qq52:=Qq52.keep B
 replace Qq55:=Qq55.keep B
 replace Qq58:=Qq58.keep B
 replace Qq60:=Qq60.keep B
 replace Qq63:=Qq63.keep B
 replace Qq66:=Qq66.keep B
 replace Qq69:=Qq69.keep B
 replace Qq71:=Qq71.keep B
 replace M75:=M75.keep B
 replace Qq77:=Qq77.keep B
 replace Qq79:=Qq79.keep B
 refine t 109 (bT) (t 110 (bT) (t 111 (bT) (tlr 112 [.slice aq35 kq35 dq35,.slice bq35 lq35 eq35] Xg38 0 (tlr 113 [.slice an47 kn47 dn47] Xg50 0 (tc 114 31 #[.agg #[.slice aq35 kq35 dq35,.slice bq35 lq35 eq35],iU 1,.agg #[.slice an47 kn47 dn47],iI 100000000000000000,iI 0] (fitl (pFits (Qq35.v (by decide +kernel)) ⟨by decide,by decide⟩ Nn47.a (by omega) (by decide) (by decide)) (t:=true) (by decide +kernel)) ?_)))))
 rintro _ v83 ⟨rfl,B⟩
 refine ⟨_,rfl,?_⟩
 replace BB:=joinB BB B
 replace Nn3:=Nn3.keep B
 replace Nn5:=Nn5.keep B
 replace Qq10:=Qq10.keep B
 replace Xg13:=Xg13.keep B
 replace Nn15:=Nn15.keep B
 replace Qq20:=Qq20.keep B
 replace Xg23:=Xg23.keep B
 replace Nn28:=Nn28.keep B
 replace Qq35:=Qq35.keep B
 replace Xg38:=Xg38.keep B
 replace Qq42:=Qq42.keep B
 replace Xg45:=Xg45.keep B
 replace Nn47:=Nn47.keep B
 replace Xg50:=Xg50.keep B
 replace Qq52:=Qq52.keep B
 replace Qq55:=Qq55.keep B
 replace Qq58:=Qq58.keep B
 replace Qq60:=Qq60.keep B
 replace Qq63:=Qq63.keep B
 replace Qq66:=Qq66.keep B
 replace Qq69:=Qq69.keep B
 replace Qq71:=Qq71.keep B
 replace M75:=M75.keep B
 replace Qq77:=Qq77.keep B
 replace Qq79:=Qq79.keep B
 refine t 115 (bT) (t 116 (bT) (tc 117 42 #[iU 1,iU 2] (frac_any (n:=1) (d:=2) ⟨by decide,by decide⟩ ⟨by decide,by decide⟩ (by decide)) ?_))
 rintro _ v85 ⟨aq84,kq84,dq84,bq84,lq84,eq84,rfl,Qq84,B⟩
 refine ⟨_,rfl,?_⟩
 replace BB:=joinB BB B
 replace Nn3:=Nn3.keep B
 replace Nn5:=Nn5.keep B
 replace Qq10:=Qq10.keep B
 replace Xg13:=Xg13.keep B
 replace Nn15:=Nn15.keep B
 replace Qq20:=Qq20.keep B
 replace Xg23:=Xg23.keep B
 replace Nn28:=Nn28.keep B
 replace Qq35:=Qq35.keep B
 replace Xg38:=Xg38.keep B
 replace Qq42:=Qq42.keep B
 replace Xg45:=Xg45.keep B
 replace Nn47:=Nn47.keep B
 replace Xg50:=Xg50.keep B
 replace Qq52:=Qq52.keep B
 replace Qq55:=Qq55.keep B
 replace Qq58:=Qq58.keep B
 replace Qq60:=Qq60.keep B
 replace Qq63:=Qq63.keep B
 replace Qq66:=Qq66.keep B
 replace Qq69:=Qq69.keep B
 replace Qq71:=Qq71.keep B
 replace M75:=M75.keep B
 replace Qq77:=Qq77.keep B
 replace Qq79:=Qq79.keep B
 refine t 118 (.agg #[zS]) (tc 119 31 #[.agg #[.slice aq84 kq84 dq84,.slice bq84 lq84 eq84],iU 1,.agg #[zS],iI 9,iI 9] (fitl (pFits (Qq84.v (by decide +kernel)) ⟨by decide,by decide⟩ (natO_nil _).a (by omega) (by decide) (by decide)) (t:=false) (by decide +kernel)) ?_)
 rintro _ v86 ⟨rfl,B⟩
 refine ⟨_,rfl,?_⟩
 replace BB:=joinB BB B
 replace Nn3:=Nn3.keep B
 replace Nn5:=Nn5.keep B
 replace Qq10:=Qq10.keep B
 replace Xg13:=Xg13.keep B
 replace Nn15:=Nn15.keep B
 replace Qq20:=Qq20.keep B
 replace Xg23:=Xg23.keep B
 replace Nn28:=Nn28.keep B
 replace Qq35:=Qq35.keep B
 replace Xg38:=Xg38.keep B
 replace Qq42:=Qq42.keep B
 replace Xg45:=Xg45.keep B
 replace Nn47:=Nn47.keep B
 replace Xg50:=Xg50.keep B
 replace Qq52:=Qq52.keep B
 replace Qq55:=Qq55.keep B
 replace Qq58:=Qq58.keep B
 replace Qq60:=Qq60.keep B
 replace Qq63:=Qq63.keep B
 replace Qq66:=Qq66.keep B
 replace Qq69:=Qq69.keep B
 replace Qq71:=Qq71.keep B
 replace M75:=M75.keep B
 replace Qq77:=Qq77.keep B
 replace Qq79:=Qq79.keep B
 replace Qq84:=Qq84.keep B
 refine t 120 (bT) (t 121 (bT) (t 0 (bT) (gl_nil (ge_then (gc_fr [(0,bT)] (gc_ret (ge_ret (bT) (rs1 0 (by kernel_rfl) (by kernel_rfl)) ?_)))))))
 exact ⟨rfl,BB⟩
end Lg
end
section
namespace Lg
open Go.RowKit Go.Lib Lim Pg Gl
def wF (xs:Nat->Int) (y t:Int):Nat->Rat:=fun i=>qv (xs i * t) y
def Bd (n:Nat) (f:Nat->Rat) (L:Nat):Prop:=∀ i,i < n->0<=f i/\Ft (f i) L
theorem w_bd {n:Nat} {xs:Nat->Int} {y t:Int} (hx:∀ i,i < n->0<=xs i/\xs i < 2 ^ (64 * 4)) (hy:0<=y/\y < 2 ^ (64 * 4)) (ht:0<=t/\t < 18446744073709551616):Bd n (wF xs y t) 640:=fun i hi =>
 ⟨qv_nn (Int.mul_nonneg (hx i hi).1 ht.1) hy.1,(hf_ft hx hy ht i hi).1⟩
theorem q_ft {a b:Int} (ha:0<=a/\a < 18446744073709551616) (hb:0<=b/\b < 18446744073709551616):0<=qv a b/\Ft (qv a b) 64:=⟨qv_nn ha.1 hb.1,qv_ft (by decide) ha hb⟩
theorem d_ft {r:Int} (hr:0<=r/\r < 2 ^ (64 * 9)):0<=(r:Rat) / ((U36:Int):Rat)/\Ft ((r:Rat) / ((U36:Int):Rat)) 640:=by
 have e:(2:Int) ^ (64 * 9) < 2 ^ 640:=by decide +kernel
 exact ⟨fr_nn hr.1 (by decide),ft_of (by decide) hr.1 rfl (by omega) (by decide +kernel)⟩
end Lg
end
section
namespace Lg
open Go.RowKit Go.Lib Lim Pg Gl
theorem place (k:Int) (n:Nat) (hn:0 < n) (hn2:n<=2147483648) (w:World) :
  Calls Tryz.prog 43 #[.int .i64 k,.int .i64 n] w fun e w'=>∃ m:Nat,e=.returned (.int .i64 m)/\m < n/\Below w.heap.size w w':=by
 have h0:¬ ((n:Int)=0):=by omega
 have h1:¬ ((n:Int) = -1):=by omega
 have b1:=Int.lt_tmod_of_pos k (show (0:Int) < n by omega)
 have b2:=Int.tmod_lt_of_pos k (show (0:Int) < n by omega)
 obtain ⟨r,hr⟩:∃ r,Int.tmod k n=r:=⟨_,rfl⟩
 rw [hr] at b1 b2
 have b3 : -2147483648<=r/\r<=2147483648:=by omega
 by_cases hneg:r < 0
 ·go_enter Tryz.func43,Tryz.ntmps43
  go_wp2
  go_ret
  exact ⟨(r + n).toNat,by rw [Int.toNat_of_nonneg (by omega)]; rfl,by omega,Below.refl _ _⟩
 ·go_enter Tryz.func43,Tryz.ntmps43
  go_wp2
  go_ret
  exact ⟨r.toNat,by rw [Int.toNat_of_nonneg (by omega)]; rfl,by omega,Below.refl _ _⟩
end Lg
end
section
namespace Lg
open Go.RowKit Go.Lib Lim Pg Gl
end Lg
end
end Go.Proofs.YtlbndpkdkdgggaaGreatDoor
