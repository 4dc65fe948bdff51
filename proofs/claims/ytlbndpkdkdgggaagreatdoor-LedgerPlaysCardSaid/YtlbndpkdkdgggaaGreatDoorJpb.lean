/- Several texts, joined: LgU. -/
import Derived.Test.YtlbndpkdkdgggaaGreatDoorJpa
set_option maxRecDepth 100000
set_option maxHeartbeats 8000000
namespace Go.Proofs.YtlbndpkdkdgggaaGreatDoor
namespace Lg
open Go.RowKit Go.Lib Lim Pg Gl
set_option linter.unusedVariables false
abbrev KF (g b c:Nat):Nat->Prop:=fun q=>q=g\/(0 < c/\q=b)
section
variable {w W W':World} {g b c:Nat}
theorem chB (h:Chg (KF g b c) w W) (B:Below W.heap.size W W'):Chg (KF g b c) w W':=h.trans (Chg.of (F:=fun _=>False) B) (fun _ _ k=>k.elim)
theorem chN {x:Nat} (h:Chg (KF g b c) w W) (C:Chg (· = x) W W') (hx:w.heap.size<=x):Chg (KF g b c) w W':=h.trans C (fun q hq k=>absurd hq (Nat.not_lt.2 ((show q=x from k)▸hx)))
theorem chS (h:Chg (KF g b c) w W) (C:Chg (· = b) W W') (hc:0 < c):Chg (KF g b c) w W':=h.trans C (fun _ _ k=>.inr ⟨hc,k⟩)
theorem chG (h:Chg (KF g b c) w W) (C:Chg (· = g) W W'):Chg (KF g b c) w W':=h.trans C (fun _ _ k=>.inl k)
theorem chE {x:Nat} (h:Chg (KF g b c) w W) (C:Chg (· = x) W W') (hx:(0 < c/\x=b)\/w.heap.size<=x):Chg (KF g b c) w W':=by
 rcases hx with ⟨h1,h2⟩ | h1
 ·subst h2; exact chS h C h1
 ·exact chN h C h1
end
def Rn (E F:Nat->E8) (n i:Nat) (v:Int) (f:Stk->Stk):Prop:=∀ j,j < n->(F j).v=(E j).v/\(F j).d=(E j).d/\stk (F j)=if j < i/\(E j).v=v then f (stk (E j)) else stk (E j)
section
variable {E F:Nat->E8} {n i L:Nat} {v:Int} {f:Stk->Stk}
theorem Rn.zero:Rn E E n 0 v f:=fun j hj=>⟨rfl,rfl,by rw [if_neg (by omega)]⟩
theorem Rn.same (h:Rn E F n i v f) (hi:i < n):stk (F i)=stk (E i):=by rw [(h i hi).2.2,if_neg (by omega)]
theorem Rn.ft (h:Rn E F n i v f) (hi:i < n) (hF:∀ i,i < n->Ft (E i).r L/\Ft (E i).o L):Ft (F i).r L/\Ft (F i).o L:=by
 have e:=h.same hi
 rw [show (F i).r=(stk (F i)).1 from rfl,show (F i).o=(stk (F i)).2.1 from rfl,e]
 exact hF i hi
theorem Rn.skip (h:Rn E F n i v f) (hi:i < n) (hv:¬ (F i).v=v):Rn E F n (i + 1) v f:=fun j hj=>by
 have k:=h j hj
 refine ⟨k.1,k.2.1,k.2.2.trans ?_⟩
 by_cases e:j=i
 ·subst e; rw [if_neg (by omega),if_neg (by rw [<- k.1]; exact fun q=>hv q.2)]
 ·by_cases e1:j < i/\(E j).v=v
  ·rw [if_pos e1,if_pos ⟨by omega,e1.2⟩]
  ·rw [if_neg e1,if_neg fun q=>e1 ⟨by omega,q.2⟩]
theorem Rn.step (h:Rn E F n i v f) (hi:i < n) (hv:(F i).v=v) {e:E8} (h1:e.v=(F i).v) (h2:e.d=(F i).d) (hs:stk e=f (stk (F i))):Rn E (upE F i e) n (i + 1) v f:=fun j hj=>by
 have k:=h j hj
 by_cases q:j=i
 ·subst q
  have q1:=h.same hi
  rw [show upE F j e j=e from if_pos rfl]
  exact ⟨h1.trans k.1,h2.trans k.2.1,by rw [hs,q1,if_pos ⟨by omega,k.1▸hv⟩]⟩
 ·rw [show upE F i e j=F j from if_neg q]
  refine ⟨k.1,k.2.1,k.2.2.trans ?_⟩
  by_cases e1:j < i/\(E j).v=v
  ·rw [if_pos e1,if_pos ⟨by omega,e1.2⟩]
  ·rw [if_neg e1,if_neg fun q=>e1 ⟨by omega,q.2⟩]
theorem Rn.done (h:Rn E F n n v f):sO F n=sOn (sO E n) v f:=sO_on fun j hj=>by
 have k:=h j hj
 refine ⟨k.1,k.2.1,k.2.2.trans ?_⟩
 by_cases e:(E j).v=v
 ·rw [if_pos ⟨hj,e⟩,if_pos e]
 ·rw [if_neg fun q=>e q.2,if_neg e]
end
theorem rGive_ {w:World} {g b:Nat} {ao:Option Addr} {n c zz:Nat} {E:Nat->E8} {L:Nat} {ax:Option Addr} {nx cx:Nat} {v x t_:Int} (hv:0<=v/\v < 18446744073709551616) (Nx:∀ w',Chg (KF g b c) w w'->NatA w' ax nx cx x) (lx:nx<=100) (ht:0<=t_/\t_ < 18446744073709551616) (X:Blk w g [.slice ao n c] 30) (YR:Ry w b ao n c zz E) (hn:n<=100) (hF:∀ i,i < n->Ft (E i).r L/\Ft (E i).o L) (hl:L<=640000) (hx:0<=x/\x < 2 ^ (64 * 9)):Calls Tryz.prog 13 #[pg g,.int .u64 v,.agg #[.slice ax nx cx],.int .u64 t_] w fun e w'=>∃ F,e=.returned (.tuple #[])/\Blk w' g [.slice ao n c] 30/\Ry w' b ao n c zz F/\sO F n=sGive (sO E n) v x t_/\Chg (KF g b c) w w'/\Lp w w':=by
 have rdF:=d_ft hx
 have BB:Chg (KF g b c) w w:=Chg.refl _ _
 have LP:=Lp.refl w
 refine gc_enter (n:=57) Tryz.func13 rfl ?_
 refine gc_seq (gc_reg ?_)
 have lX:=X.lt
 refine ta 6 [.slice ax nx cx] 35 (pg) ?_
 intro v1 g2 Xg2 hg2 B
 have hbg2:=Nat.le_trans BB.size hg2
 replace X:=X.keep B
 replace YR:=YR.keep B
 replace BB:=chB BB B
 replace LP:=LP.trans (Lp.of B)
 refine gl_nil (ge_then (gc_seq (gc_reg (t 8 (iI 0) (gl_nil (ge_then (gc_block (gc_loop (fun i=>n - i) (fun (i:Nat)=>[(0,pg g),(1,iU v),(3,iU t_),(6,pg g2),(8,iI (i:Int))]) (fun i w'=>i<=n/\Blk w' g [.slice ao n c] 30/\Blk w' g2 [.slice ax nx cx] 35/\Chg (KF g b c) w w'/\Lp w w'/\∃ F,Rn E F n i v (fun s=>(s.1,s.2.1 + (x:Rat) / ((U36:Int):Rat) * s.1 * qv 1 t_,s.2.2))/\Ry w' b ao n c zz F) 0 ⟨Nat.zero_le _,X,Xg2,BB,LP,E,Rn.zero,YR⟩ (by kernel_rfl) ?_))))))))
 clear X Xg2 BB LP YR
 rintro i v3 ⟨hi,X,Xg2,BB,LP,F,hR,YR⟩
 refine gc_seq (gc_seq (gc_reg (t 9 (iI (i:Int)) (t 10 (pg g) (t 11 (pg g) (t 12 (pg g) (tl 13 (.slice ao n c) X 0 (t 14 (iI ((n:Nat):Int)) ?_))))))))
 by_cases c4:(i:Int) < ((n:Nat):Int)
 ·have hk_i:i < n:=by omega
  refine tq 15 (.bool (decide ((i:Int) < ((n:Nat):Int)))) (bT) (congrArg Value.bool (decide_eq_true c4)) (gl_nil (ge_then (gc_yes (gc_skip (ge_then (gc_seq (gc_block (gc_seq (gc_reg (t 18 (pg g) (t 19 (pg g) (t 20 (pg g) (tl 21 (.slice ao n c) X 0 (t 22 (iI (i:Int)) (tr 23 (pq b (i * 8)) (congr_v (by rw [Nat.zero_add]) (run_ixa 8 b 0 n c i hk_i YR.p0)) (t 24 (pq b (i * 8)) (tr 25 (iU (F i).v) (ldE1 YR hk_i 0 _ (by decide) rfl) (t 26 (iU v) ?_))))))))))))))))))
  by_cases c5:((F i).v:Int)=v
  ·refine tq 27 (.bool (((F i).v:Int) == v)) (bT) (congrArg Value.bool (beq_iff_eq.2 c5)) (gl_nil (ge_then (gc_fr [(0,pg g),(1,iU v),(3,iU t_),(6,pg g2),(8,iI (i:Int)),(9,iI (i:Int)),(10,pg g),(11,pg g),(12,pg g),(13,.slice ao n c),(14,iI ((n:Nat):Int)),(15,bT),(18,pg g),(19,pg g),(20,pg g),(21,.slice ao n c),(22,iI (i:Int)),(23,pq b (i * 8)),(24,pq b (i * 8)),(25,iU (F i).v),(26,iU v),(27,bT)] (gc_yes ?_))))
   replace Nx:=Nx
   replace X:=X.drew
   replace YR:=YR.drew
   replace BB:=chB BB (Below.refl _ _).drew
   replace LP:=LP.trans (Lp.of (Below.refl _ _).drew)
   replace Xg2:=Xg2.drew
   refine gc_draw (fun w'=>Blk w' g [.slice ao n c] 30/\Blk w' g2 [.slice ax nx cx] 35/\Ry w' b ao n c zz F) (fun i=>decide (29<=i)) ⟨X,Xg2,YR⟩ ?_
   refine zp 0 28 (pg g) (zp 1 29 (pg g) (zp 2 30 (pg g) (zl 3 31 (.slice ao n c) (fun _ h=>h.1) 0 (zp 4 32 (iI (i:Int)) (zp 5 33 (pg g) (zp 6 34 (pg g) (zp 7 35 (pg g) (zl 8 36 (.slice ao n c) (fun _ h=>h.1) 0 (zp 9 37 (iI (i:Int)) (zp 10 38 (pq b (i * 8)) ?_ (hrun:=fun _=>congr_v (by rw [Nat.zero_add]) (run_ixa 8 b 0 n c i hk_i YR.p0))))))))))))
   refine zp 11 39 (pq b (i * 8 + 4)) (zr 12 40 (.agg #[.slice (F i).ov.1 (F i).ov.2.1 (F i).ov.2.2.1,.slice (F i).ov.2.2.2.1 (F i).ov.2.2.2.2.1 (F i).ov.2.2.2.2.2]) (fun _ h=>ldE2 h.2.2 hk_i 4 _ (by decide) rfl rfl) (zlr 13 41 [.slice ax nx cx] (fun _ h=>h.2.1) 0 (zp 15 43 (pg g) (zp 16 44 (pg g) (zp 17 45 (pg g) (zl 18 46 (.slice ao n c) (fun _ h=>h.1) 0 (zp 19 47 (iI (i:Int)) (zp 20 48 (pq b (i * 8)) ?_ (hrun:=fun _=>congr_v (by rw [Nat.zero_add]) (run_ixa 8 b 0 n c i hk_i YR.p0))))))))))
   refine zp 21 49 (pq b (i * 8 + 2)) (zr 22 50 (.agg #[.slice (F i).wv.1 (F i).wv.2.1 (F i).wv.2.2.1,.slice (F i).wv.2.2.2.1 (F i).wv.2.2.2.2.1 (F i).wv.2.2.2.2.2]) (fun _ h=>ldE2 h.2.2 hk_i 2 _ (by decide) rfl rfl) (zp 24 52 (iU t_) (zc 14 42 56 #[.agg #[.slice ax nx cx]] (tpOfDec (B:=2000000) (Nx _ BB) (by omega) (by omega) (by omega)) ?_)))
   rintro _ v7 ⟨aq6,kq6,dq6,bq6,lq6,eq6,rfl,Qq6,B⟩
   replace X:=X.keep B
   replace YR:=YR.keep B
   replace BB:=chB BB B
   replace LP:=LP.trans (Lp.of B)
   replace Xg2:=Xg2.keep B
   refine ⟨_,rfl,⟨X,Xg2,YR⟩,?_⟩
   refine zc 23 51 55 #[.agg #[.slice aq6 kq6 dq6,.slice bq6 lq6 eq6],.agg #[.slice (F i).wv.1 (F i).wv.2.1 (F i).wv.2.2.1,.slice (F i).wv.2.2.2.1 (F i).wv.2.2.2.2.1 (F i).wv.2.2.2.2.2]] (tpMul (B:=2000000) (Qq6.v (ft_up rdF.2 (by decide))) ((YR.q i hk_i).1.v (ft_up (hR.ft hk_i hF).1 (by omega))) (by omega)) ?_
   rintro _ v9 ⟨aq8,kq8,dq8,bq8,lq8,eq8,rfl,Qq8,B⟩
   replace X:=X.keep B
   replace YR:=YR.keep B
   replace BB:=chB BB B
   replace LP:=LP.trans (Lp.of B)
   replace Xg2:=Xg2.keep B
   replace Qq6:=Qq6.keep B
   refine ⟨_,rfl,⟨X,Xg2,YR⟩,?_⟩
   refine zc 25 53 54 #[.agg #[.slice aq8 kq8 dq8,.slice bq8 lq8 eq8],iU 1,iU t_] (by_any Qq8 (ft_up (ft_mul rdF.2 (hR.ft hk_i hF).1 rdF.1 (YR.q i hk_i).1.nn) (by omega)) ⟨by decide,by decide⟩ ht) ?_
   rintro _ v11 ⟨aq10,kq10,dq10,bq10,lq10,eq10,rfl,Qq10,B⟩
   replace X:=X.keep B
   replace YR:=YR.keep B
   replace BB:=chB BB B
   replace LP:=LP.trans (Lp.of B)
   replace Xg2:=Xg2.keep B
   replace Qq6:=Qq6.keep B
   replace Qq8:=Qq8.keep B
   refine ⟨_,rfl,⟨X,Xg2,YR⟩,?_⟩
   refine zc 26 54 53 #[.agg #[.slice (F i).ov.1 (F i).ov.2.1 (F i).ov.2.2.1,.slice (F i).ov.2.2.2.1 (F i).ov.2.2.2.2.1 (F i).ov.2.2.2.2.2],.agg #[.slice aq10 kq10 dq10,.slice bq10 lq10 eq10]] (tpAdd (B:=2000000) ((YR.q i hk_i).2.v (ft_up (hR.ft hk_i hF).2 (by omega))) (Qq10.v (ft_up (ft_mul (ft_mul rdF.2 (hR.ft hk_i hF).1 rdF.1 (YR.q i hk_i).1.nn) (q_ft (a:=1) (by decide) ht).2 (Rat.mul_nonneg rdF.1 (YR.q i hk_i).1.nn) (q_ft (a:=1) (by decide) ht).1) (by omega))) (by omega)) ?_
   rintro _ v13 ⟨aq12,kq12,dq12,bq12,lq12,eq12,rfl,Qq12,B⟩
   replace X:=X.keep B
   replace YR:=YR.keep B
   replace BB:=chB BB B
   replace LP:=LP.trans (Lp.of B)
   replace Xg2:=Xg2.keep B
   replace Qq6:=Qq6.keep B
   replace Qq8:=Qq8.keep B
   replace Qq10:=Qq10.keep B
   refine ⟨_,rfl,⟨X,Xg2,YR⟩,?_⟩
   refine zp 27 55 (pq b (i * 8)) ?_ (hrun:=fun _=>congr_v (by rw [Nat.zero_add]) (run_ixa 8 b 0 n c i hk_i YR.p0))
   refine zp 28 56 (pq b (i * 8 + 4)) (gz_late (ys 29 (YR.blk (YR.c0 hk_i)) (i * 8 + 4) (.agg #[.slice aq12 kq12 dq12,.slice bq12 lq12 eq12]) [.slice aq12 kq12 dq12,.slice bq12 lq12 eq12] (fl (upE F i ⟨(F i).v,(F i).d,(F i).wv,(aq12,kq12,dq12,bq12,lq12,eq12),(F i).r,((F i).o) + (((((x:Int):Rat) / ((U36:Int):Rat)) * ((F i).r)) * qv 1 t_),(F i).p,(F i).k⟩) n ++ zrs zz) ?_ (hb:=fl_room F hk_i 4 [.slice aq12 kq12 dq12,.slice bq12 lq12 eq12] (zrs zz) (Nat.le_of_ble_eq_true rfl)) (he:=fl_set F hk_i 4 [.slice aq12 kq12 dq12,.slice bq12 lq12 eq12] ⟨(F i).v,(F i).d,(F i).wv,(aq12,kq12,dq12,bq12,lq12,eq12),(F i).r,((F i).o) + (((((x:Int):Rat) / ((U36:Int):Rat)) * ((F i).r)) * qv 1 t_),(F i).p,(F i).k⟩ (zrs zz) (Nat.le_of_ble_eq_true rfl) rfl)))
   intro v14 Y C
   obtain ⟨YR2,P⟩:=YR.st hk_i 4 [.slice aq12 kq12 dq12,.slice bq12 lq12 eq12] ⟨(F i).v,(F i).d,(F i).wv,(aq12,kq12,dq12,bq12,lq12,eq12),(F i).r,((F i).o) + (((((x:Int):Rat) / ((U36:Int):Rat)) * ((F i).r)) * qv 1 t_),(F i).p,(F i).k⟩ (Nat.le_of_ble_eq_true rfl) rfl rfl rfl (by rfl) (YR.q i hk_i).1 Qq12 Y C
   replace X:=X.chg C (YR.ne X (by decide) (YR.c0 hk_i)).symm
   replace BB:=chS BB C (YR.c0 hk_i)
   replace LP:=LP.trans P
   replace Xg2:=Xg2.chg C (YR.ne Xg2 (by decide) (YR.c0 hk_i)).symm
   replace Qq6:=Qq6.lp P
   replace Qq8:=Qq8.lp P
   replace Qq10:=Qq10.lp P
   replace Qq12:=Qq12.lp P
   clear YR C P
   have YR:=YR2
   clear YR2
   obtain ⟨E15,hE15⟩:∃ E15,upE F i ⟨(F i).v,(F i).d,(F i).wv,(aq12,kq12,dq12,bq12,lq12,eq12),(F i).r,((F i).o) + (((((x:Int):Rat) / ((U36:Int):Rat)) * ((F i).r)) * qv 1 t_),(F i).p,(F i).k⟩=E15:=⟨_,rfl⟩
   rw [hE15] at YR
   have eE15:(E15 i).p=(F i).p/\(E15 i).k=(F i).k:=by rw [<- hE15]; simp [upE]
   replace hR:=hR.step hk_i c5 (e:=⟨(F i).v,(F i).d,(F i).wv,(aq12,kq12,dq12,bq12,lq12,eq12),(F i).r,((F i).o) + (((((x:Int):Rat) / ((U36:Int):Rat)) * ((F i).r)) * qv 1 t_),(F i).p,(F i).k⟩) rfl rfl (rfl)
   rw [hE15] at hR
   exact gy_done (ge_bn (ge_then (gc_fr [(0,pg g),(1,iU v),(3,iU t_),(6,pg g2),(8,iI (i:Int)),(9,iI (i:Int)),(10,pg g),(11,pg g),(12,pg g),(13,.slice ao n c),(14,iI ((n:Nat):Int)),(15,bT),(18,pg g),(19,pg g),(20,pg g),(21,.slice ao n c),(22,iI (i:Int)),(23,pq b (i * 8)),(24,pq b (i * 8)),(25,iU (F i).v),(26,iU v),(27,bT),(28,pg g),(29,pg g),(30,pg g),(31,.slice ao n c),(32,iI (i:Int)),(33,pg g),(34,pg g),(35,pg g),(36,.slice ao n c),(37,iI (i:Int)),(38,pq b (i * 8)),(39,pq b (i * 8 + 4)),(40,.agg #[.slice (F i).ov.1 (F i).ov.2.1 (F i).ov.2.2.1,.slice (F i).ov.2.2.2.1 (F i).ov.2.2.2.2.1 (F i).ov.2.2.2.2.2]),(41,.agg #[.slice ax nx cx]),(42,.agg #[.slice aq6 kq6 dq6,.slice bq6 lq6 eq6]),(43,pg g),(44,pg g),(45,pg g),(46,.slice ao n c),(47,iI (i:Int)),(48,pq b (i * 8)),(49,pq b (i * 8 + 2)),(50,.agg #[.slice (F i).wv.1 (F i).wv.2.1 (F i).wv.2.2.1,.slice (F i).wv.2.2.2.1 (F i).wv.2.2.2.2.1 (F i).wv.2.2.2.2.2]),(51,.agg #[.slice aq8 kq8 dq8,.slice bq8 lq8 eq8]),(52,iU t_),(53,.agg #[.slice aq10 kq10 dq10,.slice bq10 lq10 eq10]),(54,.agg #[.slice aq12 kq12 dq12,.slice bq12 lq12 eq12]),(55,pq b (i * 8)),(56,pq b (i * 8 + 4))] (gc_reg (t 16 (iI (i:Int)) (tq 17 (iI (IntKind.i64.wrap ((i:Int) + 1))) (iI ((i:Int) + 1)) (wi (by omega)) (t 8 (iI ((i:Int) + 1)) (gl_nil (ge_round (i + 1) (by omega) ⟨by omega,X,Xg2,BB,LP,E15,hR,YR⟩ (by kernel_rfl))))))))))
  ·exact tq 27 (.bool (((F i).v:Int) == v)) (bF) (congrArg Value.bool (beq_eq_false_iff_ne.2 c5)) (gl_nil (ge_then (gc_fr [(0,pg g),(1,iU v),(3,iU t_),(6,pg g2),(8,iI (i:Int)),(9,iI (i:Int)),(10,pg g),(11,pg g),(12,pg g),(13,.slice ao n c),(14,iI ((n:Nat):Int)),(15,bT),(18,pg g),(19,pg g),(20,pg g),(21,.slice ao n c),(22,iI (i:Int)),(23,pq b (i * 8)),(24,pq b (i * 8)),(25,iU (F i).v),(26,iU v),(27,bF)] (gc_no (gc_skip (ge_bn (ge_then (gc_reg (t 16 (iI (i:Int)) (tq 17 (iI (IntKind.i64.wrap ((i:Int) + 1))) (iI ((i:Int) + 1)) (wi (by omega)) (t 8 (iI ((i:Int) + 1)) (gl_nil (ge_round (i + 1) (by omega) ⟨by omega,X,Xg2,BB,LP,F,(hR.skip hk_i c5),YR⟩ (by kernel_rfl))))))))))))))
 ·have hin:i=n:=by omega
  rw [hin] at hR
  replace hR:=hR.done
  refine tq 15 (.bool (decide ((i:Int) < ((n:Nat):Int)))) (bF) (congrArg Value.bool (decide_eq_false c4)) (gl_nil (ge_then (gc_no (gc_exit (ge_tx (ge_tx (ge_bx (ge_end (.tuple #[]) (rs0 (by kernel_rfl)) ?_))))))))
  exact ⟨_,rfl,X,YR,hR,BB,LP⟩
theorem rCut_ {w:World} {g b:Nat} {ao:Option Addr} {n c zz:Nat} {E:Nat->E8} {L:Nat} {v y yy:Int} (hv:0<=v/\v < 18446744073709551616) (hy:0<=y/\y < 18446744073709551616) (hyy:0<=yy/\yy < 18446744073709551616) (X:Blk w g [.slice ao n c] 30) (YR:Ry w b ao n c zz E) (hn:n<=100) (hF:∀ i,i < n->Ft (E i).r L/\Ft (E i).o L) (hl:L<=640000) (hK:∀ i,i < n->0<=(E i).p/\(E i).p < 1000000/\0<=(E i).k/\(E i).k < 1000000):Calls Tryz.prog 22 #[pg g,.int .u64 v,.int .u64 y,.int .u64 yy] w fun e w'=>∃ F,e=.returned (.tuple #[])/\Blk w' g [.slice ao n c] 30/\Ry w' b ao n c zz F/\sO F n=sCut (sO E n) v y yy/\Chg (KF g b c) w w'/\Lp w w':=by
 have BB:Chg (KF g b c) w w:=Chg.refl _ _
 have LP:=Lp.refl w
 refine gc_enter (n:=68) Tryz.func22 rfl ?_
 refine gc_seq (gc_reg (t 8 (iI 0) (gl_nil (ge_then (gc_block (gc_loop (fun i=>n - i) (fun (i:Nat)=>[(0,pg g),(1,iU v),(2,iU y),(3,iU yy),(8,iI (i:Int))]) (fun i w'=>i<=n/\Blk w' g [.slice ao n c] 30/\Chg (KF g b c) w w'/\Lp w w'/\∃ F,Rn E F n i v (fun s=>(s.1 * qv yy y,s.2.1,s.2.2.1 + 1,s.2.2.2 + 1))/\Ry w' b ao n c zz F) 0 ⟨Nat.zero_le _,X,BB,LP,E,Rn.zero,YR⟩ (by kernel_rfl) ?_))))))
 clear X BB LP YR
 rintro i v1 ⟨hi,X,BB,LP,F,hR,YR⟩
 refine gc_seq (gc_seq (gc_reg (t 9 (iI (i:Int)) (t 10 (pg g) (t 11 (pg g) (t 12 (pg g) (tl 13 (.slice ao n c) X 0 (t 14 (iI ((n:Nat):Int)) ?_))))))))
 by_cases c2:(i:Int) < ((n:Nat):Int)
 ·have hk_i:i < n:=by omega
  refine tq 15 (.bool (decide ((i:Int) < ((n:Nat):Int)))) (bT) (congrArg Value.bool (decide_eq_true c2)) (gl_nil (ge_then (gc_yes (gc_skip (ge_then (gc_seq (gc_block (gc_seq (gc_reg (t 18 (pg g) (t 19 (pg g) (t 20 (pg g) (tl 21 (.slice ao n c) X 0 (t 22 (iI (i:Int)) (tr 23 (pq b (i * 8)) (congr_v (by rw [Nat.zero_add]) (run_ixa 8 b 0 n c i hk_i YR.p0)) (t 24 (pq b (i * 8)) (tr 25 (iU (F i).v) (ldE1 YR hk_i 0 _ (by decide) rfl) (t 26 (iU v) ?_))))))))))))))))))
  by_cases c3:((F i).v:Int)=v
  ·refine tq 27 (.bool (((F i).v:Int) == v)) (bT) (congrArg Value.bool (beq_iff_eq.2 c3)) (gl_nil (ge_then (gc_fr [(0,pg g),(1,iU v),(2,iU y),(3,iU yy),(8,iI (i:Int)),(9,iI (i:Int)),(10,pg g),(11,pg g),(12,pg g),(13,.slice ao n c),(14,iI ((n:Nat):Int)),(15,bT),(18,pg g),(19,pg g),(20,pg g),(21,.slice ao n c),(22,iI (i:Int)),(23,pq b (i * 8)),(24,pq b (i * 8)),(25,iU (F i).v),(26,iU v),(27,bT)] (gc_yes (gc_seq ?_)))))
   replace X:=X.drew
   replace YR:=YR.drew
   replace BB:=chB BB (Below.refl _ _).drew
   replace LP:=LP.trans (Lp.of (Below.refl _ _).drew)
   refine gc_draw (fun w'=>Blk w' g [.slice ao n c] 30/\Ry w' b ao n c zz F) (fun i=>decide (18<=i)) ⟨X,YR⟩ ?_
   refine zp 0 28 (pg g) (zp 1 29 (pg g) (zp 2 30 (pg g) (zl 3 31 (.slice ao n c) (fun _ h=>h.1) 0 (zp 4 32 (iI (i:Int)) (zp 5 33 (pg g) (zp 6 34 (pg g) (zp 7 35 (pg g) (zl 8 36 (.slice ao n c) (fun _ h=>h.1) 0 (zp 9 37 (iI (i:Int)) (zp 10 38 (pq b (i * 8)) ?_ (hrun:=fun _=>congr_v (by rw [Nat.zero_add]) (run_ixa 8 b 0 n c i hk_i YR.p0))))))))))))
   refine zp 11 39 (pq b (i * 8 + 2)) (zr 12 40 (.agg #[.slice (F i).wv.1 (F i).wv.2.1 (F i).wv.2.2.1,.slice (F i).wv.2.2.2.1 (F i).wv.2.2.2.2.1 (F i).wv.2.2.2.2.2]) (fun _ h=>ldE2 h.2 hk_i 2 _ (by decide) rfl rfl) (zp 13 41 (iU yy) (zp 14 42 (iU y) (zc 15 43 54 #[.agg #[.slice (F i).wv.1 (F i).wv.2.1 (F i).wv.2.2.1,.slice (F i).wv.2.2.2.1 (F i).wv.2.2.2.2.1 (F i).wv.2.2.2.2.2],iU yy,iU y] (by_any (YR.q i hk_i).1 (ft_up (hR.ft hk_i hF).1 (by omega)) hyy hy) ?_))))
   rintro _ v5 ⟨aq4,kq4,dq4,bq4,lq4,eq4,rfl,Qq4,B⟩
   replace X:=X.keep B
   replace YR:=YR.keep B
   replace BB:=chB BB B
   replace LP:=LP.trans (Lp.of B)
   refine ⟨_,rfl,⟨X,YR⟩,?_⟩
   refine zp 16 44 (pq b (i * 8)) ?_ (hrun:=fun _=>congr_v (by rw [Nat.zero_add]) (run_ixa 8 b 0 n c i hk_i YR.p0))
   refine zp 17 45 (pq b (i * 8 + 2)) (gz_late (ys 18 (YR.blk (YR.c0 hk_i)) (i * 8 + 2) (.agg #[.slice aq4 kq4 dq4,.slice bq4 lq4 eq4]) [.slice aq4 kq4 dq4,.slice bq4 lq4 eq4] (fl (upE F i ⟨(F i).v,(F i).d,(aq4,kq4,dq4,bq4,lq4,eq4),(F i).ov,((F i).r) * qv yy y,(F i).o,(F i).p,(F i).k⟩) n ++ zrs zz) ?_ (hb:=fl_room F hk_i 2 [.slice aq4 kq4 dq4,.slice bq4 lq4 eq4] (zrs zz) (Nat.le_of_ble_eq_true rfl)) (he:=fl_set F hk_i 2 [.slice aq4 kq4 dq4,.slice bq4 lq4 eq4] ⟨(F i).v,(F i).d,(aq4,kq4,dq4,bq4,lq4,eq4),(F i).ov,((F i).r) * qv yy y,(F i).o,(F i).p,(F i).k⟩ (zrs zz) (Nat.le_of_ble_eq_true rfl) rfl)))
   intro v6 Y C
   obtain ⟨YR2,P⟩:=YR.st hk_i 2 [.slice aq4 kq4 dq4,.slice bq4 lq4 eq4] ⟨(F i).v,(F i).d,(aq4,kq4,dq4,bq4,lq4,eq4),(F i).ov,((F i).r) * qv yy y,(F i).o,(F i).p,(F i).k⟩ (Nat.le_of_ble_eq_true rfl) rfl rfl rfl (by rfl) Qq4 (YR.q i hk_i).2 Y C
   replace X:=X.chg C (YR.ne X (by decide) (YR.c0 hk_i)).symm
   replace BB:=chS BB C (YR.c0 hk_i)
   replace LP:=LP.trans P
   replace Qq4:=Qq4.lp P
   clear YR C P
   have YR:=YR2
   clear YR2
   obtain ⟨E7,hE7⟩:∃ E7,upE F i ⟨(F i).v,(F i).d,(aq4,kq4,dq4,bq4,lq4,eq4),(F i).ov,((F i).r) * qv yy y,(F i).o,(F i).p,(F i).k⟩=E7:=⟨_,rfl⟩
   rw [hE7] at YR
   have eE7:(E7 i).p=(F i).p/\(E7 i).k=(F i).k:=by rw [<- hE7]; simp [upE]
   refine gy_done (ge_then (gc_fr [(0,pg g),(1,iU v),(2,iU y),(3,iU yy),(8,iI (i:Int)),(9,iI (i:Int)),(10,pg g),(11,pg g),(12,pg g),(13,.slice ao n c),(14,iI ((n:Nat):Int)),(15,bT),(18,pg g),(19,pg g),(20,pg g),(21,.slice ao n c),(22,iI (i:Int)),(23,pq b (i * 8)),(24,pq b (i * 8)),(25,iU (F i).v),(26,iU v),(27,bT),(28,pg g),(29,pg g),(30,pg g),(31,.slice ao n c),(32,iI (i:Int)),(33,pg g),(34,pg g),(35,pg g),(36,.slice ao n c),(37,iI (i:Int)),(38,pq b (i * 8)),(39,pq b (i * 8 + 2)),(40,.agg #[.slice (F i).wv.1 (F i).wv.2.1 (F i).wv.2.2.1,.slice (F i).wv.2.2.2.1 (F i).wv.2.2.2.2.1 (F i).wv.2.2.2.2.2]),(41,iU yy),(42,iU y),(43,.agg #[.slice aq4 kq4 dq4,.slice bq4 lq4 eq4]),(44,pq b (i * 8)),(45,pq b (i * 8 + 2))] (gc_seq (gc_reg (t 46 (pg g) (t 47 (pg g) (t 48 (pg g) (tl 49 (.slice ao n c) X 0 (t 50 (iI (i:Int)) (tr 51 (pq b (i * 8)) (congr_v (by rw [Nat.zero_add]) (run_ixa 8 b 0 n c i hk_i YR.p0)) (t 52 (pq b (i * 8 + 6)) (tr 53 (iI (E7 i).p) (ldE1 YR hk_i 6 _ (by decide) rfl) (tq 54 (iI (IntKind.i64.wrap ((E7 i).p + 1))) (iI ((E7 i).p + 1)) (wi ((by have q1:=hK i hk_i; have q2:=hR.same hk_i; simp only [stk,Prod.mk.injEq] at q2; omega))) (tr 55 (pq b (i * 8)) (congr_v (by rw [Nat.zero_add]) (run_ixa 8 b 0 n c i hk_i YR.p0)) (t 56 (pq b (i * 8 + 6)) (ts (YR.blk (YR.c0 hk_i)) (i * 8 + 6) (iI ((E7 i).p + 1)) [iI ((E7 i).p + 1)] (fl (upE E7 i ⟨(E7 i).v,(E7 i).d,(E7 i).wv,(E7 i).ov,(E7 i).r,(E7 i).o,(E7 i).p + 1,(E7 i).k⟩) n ++ zrs zz) ?_ (hb:=fl_room E7 hk_i 6 [iI ((E7 i).p + 1)] (zrs zz) (Nat.le_of_ble_eq_true rfl)) (he:=fl_set E7 hk_i 6 [iI ((E7 i).p + 1)] ⟨(E7 i).v,(E7 i).d,(E7 i).wv,(E7 i).ov,(E7 i).r,(E7 i).o,(E7 i).p + 1,(E7 i).k⟩ (zrs zz) (Nat.le_of_ble_eq_true rfl) rfl)))))))))))))))))
   intro v8 Y C
   obtain ⟨YR2,P⟩:=YR.st hk_i 6 [iI ((E7 i).p + 1)] ⟨(E7 i).v,(E7 i).d,(E7 i).wv,(E7 i).ov,(E7 i).r,(E7 i).o,(E7 i).p + 1,(E7 i).k⟩ (Nat.le_of_ble_eq_true rfl) rfl rfl rfl (by rfl) (YR.q i hk_i).1 (YR.q i hk_i).2 Y C
   replace X:=X.chg C (YR.ne X (by decide) (YR.c0 hk_i)).symm
   replace BB:=chS BB C (YR.c0 hk_i)
   replace LP:=LP.trans P
   replace Qq4:=Qq4.lp P
   clear YR C P
   have YR:=YR2
   clear YR2
   obtain ⟨E9,hE9⟩:∃ E9,upE E7 i ⟨(E7 i).v,(E7 i).d,(E7 i).wv,(E7 i).ov,(E7 i).r,(E7 i).o,(E7 i).p + 1,(E7 i).k⟩=E9:=⟨_,rfl⟩
   rw [hE9] at YR
   have eE9:(E9 i).p=(E7 i).p + 1/\(E9 i).k=(E7 i).k:=by rw [<- hE9]; simp [upE]
   refine gl_nil (ge_then (gc_reg (t 57 (pg g) (t 58 (pg g) (t 59 (pg g) (tl 60 (.slice ao n c) X 0 (t 61 (iI (i:Int)) (tr 62 (pq b (i * 8)) (congr_v (by rw [Nat.zero_add]) (run_ixa 8 b 0 n c i hk_i YR.p0)) (t 63 (pq b (i * 8 + 7)) (tr 64 (iI (E9 i).k) (ldE1 YR hk_i 7 _ (by decide) rfl) (tq 65 (iI (IntKind.i64.wrap ((E9 i).k + 1))) (iI ((E9 i).k + 1)) (wi ((by have q1:=hK i hk_i; have q2:=hR.same hk_i; simp only [stk,Prod.mk.injEq] at q2; omega))) (tr 66 (pq b (i * 8)) (congr_v (by rw [Nat.zero_add]) (run_ixa 8 b 0 n c i hk_i YR.p0)) (t 67 (pq b (i * 8 + 7)) (ts (YR.blk (YR.c0 hk_i)) (i * 8 + 7) (iI ((E9 i).k + 1)) [iI ((E9 i).k + 1)] (fl (upE E9 i ⟨(E9 i).v,(E9 i).d,(E9 i).wv,(E9 i).ov,(E9 i).r,(E9 i).o,(E9 i).p,(E9 i).k + 1⟩) n ++ zrs zz) ?_ (hb:=fl_room E9 hk_i 7 [iI ((E9 i).k + 1)] (zrs zz) (Nat.le_of_ble_eq_true rfl)) (he:=fl_set E9 hk_i 7 [iI ((E9 i).k + 1)] ⟨(E9 i).v,(E9 i).d,(E9 i).wv,(E9 i).ov,(E9 i).r,(E9 i).o,(E9 i).p,(E9 i).k + 1⟩ (zrs zz) (Nat.le_of_ble_eq_true rfl) rfl)))))))))))))))
   intro v10 Y C
   obtain ⟨YR2,P⟩:=YR.st hk_i 7 [iI ((E9 i).k + 1)] ⟨(E9 i).v,(E9 i).d,(E9 i).wv,(E9 i).ov,(E9 i).r,(E9 i).o,(E9 i).p,(E9 i).k + 1⟩ (Nat.le_of_ble_eq_true rfl) rfl rfl rfl (by rfl) (YR.q i hk_i).1 (YR.q i hk_i).2 Y C
   replace X:=X.chg C (YR.ne X (by decide) (YR.c0 hk_i)).symm
   replace BB:=chS BB C (YR.c0 hk_i)
   replace LP:=LP.trans P
   replace Qq4:=Qq4.lp P
   clear YR C P
   have YR:=YR2
   clear YR2
   obtain ⟨E11,hE11⟩:∃ E11,upE E9 i ⟨(E9 i).v,(E9 i).d,(E9 i).wv,(E9 i).ov,(E9 i).r,(E9 i).o,(E9 i).p,(E9 i).k + 1⟩=E11:=⟨_,rfl⟩
   rw [hE11] at YR
   have eE11:(E11 i).p=(E9 i).p/\(E11 i).k=(E9 i).k + 1:=by rw [<- hE11]; simp [upE]
   have e12:E11=upE F i ⟨(F i).v,(F i).d,(E7 i).wv,(F i).ov,(E7 i).r,(F i).o,(F i).p + 1,(F i).k + 1⟩:=by
    subst hE7 hE9 hE11
    funext j
    by_cases q:j=i
    ·subst q; simp [upE]
    ·simp [upE,q]
   have eR:(E7 i).r=(F i).r * qv yy y:=by subst hE7; simp [upE]
   replace hR:=hR.step hk_i c3 (e:=⟨(F i).v,(F i).d,(E7 i).wv,(F i).ov,(E7 i).r,(F i).o,(F i).p + 1,(F i).k + 1⟩) rfl rfl (by simp only [stk,eR])
   rw [<- e12] at hR
   exact gl_nil (ge_bn (ge_then (gc_fr [(0,pg g),(1,iU v),(2,iU y),(3,iU yy),(8,iI (i:Int)),(9,iI (i:Int)),(10,pg g),(11,pg g),(12,pg g),(13,.slice ao n c),(14,iI ((n:Nat):Int)),(15,bT),(18,pg g),(19,pg g),(20,pg g),(21,.slice ao n c),(22,iI (i:Int)),(23,pq b (i * 8)),(24,pq b (i * 8)),(25,iU (F i).v),(26,iU v),(27,bT),(28,pg g),(29,pg g),(30,pg g),(31,.slice ao n c),(32,iI (i:Int)),(33,pg g),(34,pg g),(35,pg g),(36,.slice ao n c),(37,iI (i:Int)),(38,pq b (i * 8)),(39,pq b (i * 8 + 2)),(40,.agg #[.slice (F i).wv.1 (F i).wv.2.1 (F i).wv.2.2.1,.slice (F i).wv.2.2.2.1 (F i).wv.2.2.2.2.1 (F i).wv.2.2.2.2.2]),(41,iU yy),(42,iU y),(43,.agg #[.slice aq4 kq4 dq4,.slice bq4 lq4 eq4]),(44,pq b (i * 8)),(45,pq b (i * 8 + 2)),(46,pg g),(47,pg g),(48,pg g),(49,.slice ao n c),(50,iI (i:Int)),(51,pq b (i * 8)),(52,pq b (i * 8 + 6)),(53,iI (E7 i).p),(54,iI ((E7 i).p + 1)),(55,pq b (i * 8)),(56,pq b (i * 8 + 6)),(57,pg g),(58,pg g),(59,pg g),(60,.slice ao n c),(61,iI (i:Int)),(62,pq b (i * 8)),(63,pq b (i * 8 + 7)),(64,iI (E9 i).k),(65,iI ((E9 i).k + 1)),(66,pq b (i * 8)),(67,pq b (i * 8 + 7))] (gc_reg (t 16 (iI (i:Int)) (tq 17 (iI (IntKind.i64.wrap ((i:Int) + 1))) (iI ((i:Int) + 1)) (wi (by omega)) (t 8 (iI ((i:Int) + 1)) (gl_nil (ge_round (i + 1) (by omega) ⟨by omega,X,BB,LP,E11,hR,YR⟩ (by kernel_rfl))))))))))
  ·exact tq 27 (.bool (((F i).v:Int) == v)) (bF) (congrArg Value.bool (beq_eq_false_iff_ne.2 c3)) (gl_nil (ge_then (gc_fr [(0,pg g),(1,iU v),(2,iU y),(3,iU yy),(8,iI (i:Int)),(9,iI (i:Int)),(10,pg g),(11,pg g),(12,pg g),(13,.slice ao n c),(14,iI ((n:Nat):Int)),(15,bT),(18,pg g),(19,pg g),(20,pg g),(21,.slice ao n c),(22,iI (i:Int)),(23,pq b (i * 8)),(24,pq b (i * 8)),(25,iU (F i).v),(26,iU v),(27,bF)] (gc_no (gc_skip (ge_bn (ge_then (gc_reg (t 16 (iI (i:Int)) (tq 17 (iI (IntKind.i64.wrap ((i:Int) + 1))) (iI ((i:Int) + 1)) (wi (by omega)) (t 8 (iI ((i:Int) + 1)) (gl_nil (ge_round (i + 1) (by omega) ⟨by omega,X,BB,LP,F,(hR.skip hk_i c3),YR⟩ (by kernel_rfl))))))))))))))
 ·have hin:i=n:=by omega
  rw [hin] at hR
  replace hR:=hR.done
  refine tq 15 (.bool (decide ((i:Int) < ((n:Nat):Int)))) (bF) (congrArg Value.bool (decide_eq_false c2)) (gl_nil (ge_then (gc_no (gc_exit (ge_tx (ge_tx (ge_bx (ge_end (.tuple #[]) (rs0 (by kernel_rfl)) ?_))))))))
  exact ⟨_,rfl,X,YR,hR,BB,LP⟩
def Kn (E:Nat->E8) (n:Nat):Prop:=∀ i j,i < n->j < n->(E i).v=(E j).v->(E i).d=(E j).d->i=j
theorem Kn.other {E:Nat->E8} {n i:Nat} {v d:Int} (h:Kn E n) (hi:i < n) (hy:(E i).v=v/\(E i).d=d):∀ j,j < n->j≠i->¬ ((E j).v=v/\(E j).d=d):=fun j hj hne q=>hne (h j i hj hi (q.1.trans hy.1.symm) (q.2.trans hy.2.symm))
theorem Kn.same {E F:Nat->E8} {n:Nat} (h:Kn E n) (e:∀ j,j < n->(F j).v=(E j).v/\(F j).d=(E j).d):Kn F n:=fun i j hi hj h1 h2=>h i j hi hj ((e i hi).1.symm.trans (h1.trans (e j hj).1)) ((e i hi).2.symm.trans (h2.trans (e j hj).2))
theorem rSettle_n {w:World} {g b:Nat} {ao:Option Addr} {n c zz:Nat} {E:Nat->E8} {L:Nat} {v d:Int} (hv:0<=v/\v < 18446744073709551616) (hd:0<=d/\d < 18446744073709551616) (X:Blk w g [.slice ao n c] 30) (YR:Ry w b ao n c zz E) (hn:n<=100) (hF:∀ i,i < n->Ft (E i).r L/\Ft (E i).o L) (hl:L<=640000) (hK:∀ i,i < n->0<=(E i).p/\(E i).p < 1000000/\0<=(E i).k/\(E i).k < 1000000) (hno:∀ j,j < n->¬ ((E j).v=v/\(E j).d=d)):Calls Tryz.prog 15 #[pg g,.int .u64 v,.int .u64 d] w fun e w'=>∃ a k d_ a' k' d' F,e=.returned (.tuple #[.agg #[.slice a k d_,.slice a' k' d'],.int .i64 (sTold (sTick (sO E n) v) v d).2.1,.int .i64 (sTold (sTick (sO E n) v) v d).2.2])/\RQ w' a k d_ a' k' d' (sTold (sTick (sO E n) v) v d).1/\Blk w' g [.slice ao n c] 30/\Ry w' b ao n c zz F/\sO F n=sClear (sTick (sO E n) v) v d/\Chg (KF g b c) w w'/\Lp w w':=by
 have BB:Chg (KF g b c) w w:=Chg.refl _ _
 have LP:=Lp.refl w
 refine gc_enter (n:=100) Tryz.func15 rfl ?_
 refine gc_seq (gc_reg ?_)
 have lX:=X.lt
 refine ta 6 [zS,zS] 40 (pg) ?_
 intro v1 g2 Xg2 hg2 B
 have hbg2:=Nat.le_trans BB.size hg2
 replace X:=X.keep B
 replace YR:=YR.keep B
 replace BB:=chB BB B
 replace LP:=LP.trans (Lp.of B)
 refine t 7 (iI 0) (t 8 (iI 0) (gl_nil (ge_then (gc_seq (gc_seq (gc_reg (t 9 (iI 0) (gl_nil (ge_then (gc_block (gc_loop (fun i=>n - i) (fun (i:Nat)=>[(0,pg g),(1,iU v),(2,iU d),(6,pg g2),(7,iI 0),(8,iI 0),(9,iI (i:Int))]) (fun i w'=>i<=n/\Blk w' g [.slice ao n c] 30/\Blk w' g2 [zS,zS] 40/\Chg (KF g b c) w w'/\Lp w w'/\∃ F,Rn E F n i v (fun s=>(s.1,s.2.1,s.2.2.1 + 1,s.2.2.2))/\Ry w' b ao n c zz F) 0 ⟨Nat.zero_le _,X,Xg2,BB,LP,E,Rn.zero,YR⟩ (by kernel_rfl) ?_)))))))))))
 clear X Xg2 BB LP YR
 rintro i v3 ⟨hi,X,Xg2,BB,LP,F,hR,YR⟩
 refine gc_seq (gc_seq (gc_reg (t 14 (iI (i:Int)) (t 15 (pg g) (t 16 (pg g) (t 17 (pg g) (tl 18 (.slice ao n c) X 0 (t 19 (iI ((n:Nat):Int)) ?_))))))))
 by_cases c4:(i:Int) < ((n:Nat):Int)
 ·have hk_i:i < n:=by omega
  refine tq 20 (.bool (decide ((i:Int) < ((n:Nat):Int)))) (bT) (congrArg Value.bool (decide_eq_true c4)) (gl_nil (ge_then (gc_yes (gc_skip (ge_then (gc_seq (gc_block (gc_seq (gc_reg (t 23 (pg g) (t 24 (pg g) (t 25 (pg g) (tl 26 (.slice ao n c) X 0 (t 27 (iI (i:Int)) (tr 28 (pq b (i * 8)) (congr_v (by rw [Nat.zero_add]) (run_ixa 8 b 0 n c i hk_i YR.p0)) (t 29 (pq b (i * 8)) (tr 30 (iU (F i).v) (ldE1 YR hk_i 0 _ (by decide) rfl) (t 31 (iU v) ?_))))))))))))))))))
  by_cases c5:((F i).v:Int)=v
  ·refine tq 32 (.bool (((F i).v:Int) == v)) (bT) (congrArg Value.bool (beq_iff_eq.2 c5)) (gl_nil (ge_then (gc_fr [(0,pg g),(1,iU v),(2,iU d),(6,pg g2),(7,iI 0),(8,iI 0),(9,iI (i:Int)),(14,iI (i:Int)),(15,pg g),(16,pg g),(17,pg g),(18,.slice ao n c),(19,iI ((n:Nat):Int)),(20,bT),(23,pg g),(24,pg g),(25,pg g),(26,.slice ao n c),(27,iI (i:Int)),(28,pq b (i * 8)),(29,pq b (i * 8)),(30,iU (F i).v),(31,iU v),(32,bT)] (gc_yes (gc_reg (t 33 (pg g) (t 34 (pg g) (t 35 (pg g) (tl 36 (.slice ao n c) X 0 (t 37 (iI (i:Int)) (tr 38 (pq b (i * 8)) (congr_v (by rw [Nat.zero_add]) (run_ixa 8 b 0 n c i hk_i YR.p0)) (t 39 (pq b (i * 8 + 6)) (tr 40 (iI (F i).p) (ldE1 YR hk_i 6 _ (by decide) rfl) (tq 41 (iI (IntKind.i64.wrap ((F i).p + 1))) (iI ((F i).p + 1)) (wi ((by have q1:=hK i hk_i; have q2:=hR.same hk_i; simp only [stk,Prod.mk.injEq] at q2; omega))) (tr 42 (pq b (i * 8)) (congr_v (by rw [Nat.zero_add]) (run_ixa 8 b 0 n c i hk_i YR.p0)) (t 43 (pq b (i * 8 + 6)) (ts (YR.blk (YR.c0 hk_i)) (i * 8 + 6) (iI ((F i).p + 1)) [iI ((F i).p + 1)] (fl (upE F i ⟨(F i).v,(F i).d,(F i).wv,(F i).ov,(F i).r,(F i).o,(F i).p + 1,(F i).k⟩) n ++ zrs zz) ?_ (hb:=fl_room F hk_i 6 [iI ((F i).p + 1)] (zrs zz) (Nat.le_of_ble_eq_true rfl)) (he:=fl_set F hk_i 6 [iI ((F i).p + 1)] ⟨(F i).v,(F i).d,(F i).wv,(F i).ov,(F i).r,(F i).o,(F i).p + 1,(F i).k⟩ (zrs zz) (Nat.le_of_ble_eq_true rfl) rfl))))))))))))))))))
   intro v6 Y C
   obtain ⟨YR2,P⟩:=YR.st hk_i 6 [iI ((F i).p + 1)] ⟨(F i).v,(F i).d,(F i).wv,(F i).ov,(F i).r,(F i).o,(F i).p + 1,(F i).k⟩ (Nat.le_of_ble_eq_true rfl) rfl rfl rfl (by rfl) (YR.q i hk_i).1 (YR.q i hk_i).2 Y C
   replace X:=X.chg C (YR.ne X (by decide) (YR.c0 hk_i)).symm
   replace BB:=chS BB C (YR.c0 hk_i)
   replace LP:=LP.trans P
   replace Xg2:=Xg2.chg C (YR.ne Xg2 (by decide) (YR.c0 hk_i)).symm
   clear YR C P
   have YR:=YR2
   clear YR2
   obtain ⟨E7,hE7⟩:∃ E7,upE F i ⟨(F i).v,(F i).d,(F i).wv,(F i).ov,(F i).r,(F i).o,(F i).p + 1,(F i).k⟩=E7:=⟨_,rfl⟩
   rw [hE7] at YR
   have eE7:(E7 i).p=(F i).p + 1/\(E7 i).k=(F i).k:=by rw [<- hE7]; simp [upE]
   replace hR:=hR.step hk_i c5 (e:=⟨(F i).v,(F i).d,(F i).wv,(F i).ov,(F i).r,(F i).o,(F i).p + 1,(F i).k⟩) rfl rfl rfl
   rw [hE7] at hR
   exact gl_nil (ge_bn (ge_then (gc_reg (t 21 (iI (i:Int)) (tq 22 (iI (IntKind.i64.wrap ((i:Int) + 1))) (iI ((i:Int) + 1)) (wi (by omega)) (t 9 (iI ((i:Int) + 1)) (gl_nil (ge_round (i + 1) (by omega) ⟨by omega,X,Xg2,BB,LP,E7,hR,YR⟩ (by kernel_rfl)))))))))
  ·exact tq 32 (.bool (((F i).v:Int) == v)) (bF) (congrArg Value.bool (beq_eq_false_iff_ne.2 c5)) (gl_nil (ge_then (gc_fr [(0,pg g),(1,iU v),(2,iU d),(6,pg g2),(7,iI 0),(8,iI 0),(9,iI (i:Int)),(14,iI (i:Int)),(15,pg g),(16,pg g),(17,pg g),(18,.slice ao n c),(19,iI ((n:Nat):Int)),(20,bT),(23,pg g),(24,pg g),(25,pg g),(26,.slice ao n c),(27,iI (i:Int)),(28,pq b (i * 8)),(29,pq b (i * 8)),(30,iU (F i).v),(31,iU v),(32,bF)] (gc_no (gc_skip (ge_bn (ge_then (gc_reg (t 21 (iI (i:Int)) (tq 22 (iI (IntKind.i64.wrap ((i:Int) + 1))) (iI ((i:Int) + 1)) (wi (by omega)) (t 9 (iI ((i:Int) + 1)) (gl_nil (ge_round (i + 1) (by omega) ⟨by omega,X,Xg2,BB,LP,F,(hR.skip hk_i c5),YR⟩ (by kernel_rfl))))))))))))))
 ·have hin:i=n:=by omega
  rw [hin] at hR
  have hI:∀ j,j < n->(F j).v=(E j).v/\(F j).d=(E j).d:=fun j hj=>⟨(hR j hj).1,(hR j hj).2.1⟩
  replace hR:=hR.done
  have hnoF:∀ j,j < n->¬ ((F j).v=v/\(F j).d=d):=fun j hj q=>hno j hj ⟨(hI j hj).1.symm.trans q.1,(hI j hj).2.symm.trans q.2⟩
  refine tq 20 (.bool (decide ((i:Int) < ((n:Nat):Int)))) (bF) (congrArg Value.bool (decide_eq_false c4)) (gl_nil (ge_then (gc_no (gc_exit (ge_tx (ge_tx (ge_bx (ge_then (gc_seq (gc_reg (t 44 (pg g) (t 45 (iU v) (t 46 (iU d) (tc 47 59 #[pg g,iU v,iU d] (at_no hv hd X YR hn hnoF) ?_))))))))))))))
  rintro _ v8 ⟨rfl,B⟩
  refine ⟨_,rfl,?_⟩
  replace X:=X.keep B
  replace YR:=YR.keep B
  replace BB:=chB BB B
  replace LP:=LP.trans (Lp.of B)
  replace Xg2:=Xg2.keep B
  refine t 10 (iI (-1)) (gl_nil (ge_then (gc_fr [(0,pg g),(6,pg g2),(7,iI 0),(8,iI 0),(10,iI (-1))] (gc_seq (gc_seq (gc_reg (t 48 (iI (-1)) (t 49 (bT) (gl_nil (ge_then (gc_yes (gc_seq (gc_reg (tc 50 60 #[] (nothing_any) ?_))))))))))))))
  rintro _ v10 ⟨aq9,kq9,dq9,bq9,lq9,eq9,rfl,Qq9,B⟩
  refine ⟨_,rfl,?_⟩
  replace X:=X.keep B
  replace YR:=YR.keep B
  replace BB:=chB BB B
  replace LP:=LP.trans (Lp.of B)
  replace Xg2:=Xg2.keep B
  refine ts Xg2 0 (.agg #[.slice aq9 kq9 dq9,.slice bq9 lq9 eq9]) [.slice aq9 kq9 dq9,.slice bq9 lq9 eq9] [.slice aq9 kq9 dq9,.slice bq9 lq9 eq9] ?_
  intro v11 Y C
  replace X:=X.chg C (show g≠g2 by omega)
  replace YR:=YR.cg Xg2 C (by rfl) (by decide)
  replace BB:=chN BB C (by omega)
  replace LP:=LP.trans (Lp.cg Xg2 C (by rfl))
  replace Qq9:=Qq9.cg Xg2 C (by rfl)
  have Xg2:=Y
  refine t 7 (iI 0) (t 8 (iI 0) (gl_nil (ge_then (gc_ret (ge_tr (ge_ret (.tuple #[.agg #[.slice aq9 kq9 dq9,.slice bq9 lq9 eq9],iI 0,iI 0]) (rsc3 6 7 8 (T:=40) (by kernel_rfl) (by kernel_rfl) (by kernel_rfl) (by kernel_rfl) (lr Xg2 0)) ?_))))))
  have hT:sTold (sTick (sO E n) v) v d=(0,0,0):=by
   rw [show sTick (sO E n) v=sO F n from hR.symm]; unfold sTold; rw [sO_no hnoF]
  have hS:sO F n=sClear (sTick (sO E n) v) v d:=by
   rw [show sTick (sO E n) v=sO F n from hR.symm]
   unfold sClear sAt
   refine (List.map_id _).symm.trans (List.map_congr_left fun e he => ?_)
   obtain ⟨j,hj,rfl⟩:=sO_mem.1 he
   exact (if_neg (hnoF j hj)).symm
  exact ⟨aq9,kq9,dq9,bq9,lq9,eq9,_,by rw [hT],by rw [hT]; exact Qq9,X,YR,hS,BB,LP⟩
theorem rSettle_y {w:World} {g b:Nat} {ao:Option Addr} {n c zz:Nat} {E:Nat->E8} {L:Nat} {v d:Int} (hv:0<=v/\v < 18446744073709551616) (hd:0<=d/\d < 18446744073709551616) (X:Blk w g [.slice ao n c] 30) (YR:Ry w b ao n c zz E) (hn:n<=100) (hF:∀ i,i < n->Ft (E i).r L/\Ft (E i).o L) (hl:L<=640000) (hK:∀ i,i < n->0<=(E i).p/\(E i).p < 1000000/\0<=(E i).k/\(E i).k < 1000000) (hKn:Kn E n) {i0:Nat} (hk_i0:i0 < n) (hy:(E i0).v=v/\(E i0).d=d):Calls Tryz.prog 15 #[pg g,.int .u64 v,.int .u64 d] w fun e w'=>∃ a k d_ a' k' d' F,e=.returned (.tuple #[.agg #[.slice a k d_,.slice a' k' d'],.int .i64 (sTold (sTick (sO E n) v) v d).2.1,.int .i64 (sTold (sTick (sO E n) v) v d).2.2])/\RQ w' a k d_ a' k' d' (sTold (sTick (sO E n) v) v d).1/\Blk w' g [.slice ao n c] 30/\Ry w' b ao n c zz F/\sO F n=sClear (sTick (sO E n) v) v d/\Chg (KF g b c) w w'/\Lp w w':=by
 have BB:Chg (KF g b c) w w:=Chg.refl _ _
 have LP:=Lp.refl w
 refine gc_enter (n:=100) Tryz.func15 rfl ?_
 refine gc_seq (gc_reg ?_)
 have lX:=X.lt
 refine ta 6 [zS,zS] 40 (pg) ?_
 intro v1 g2 Xg2 hg2 B
 have hbg2:=Nat.le_trans BB.size hg2
 replace X:=X.keep B
 replace YR:=YR.keep B
 replace BB:=chB BB B
 replace LP:=LP.trans (Lp.of B)
 refine t 7 (iI 0) (t 8 (iI 0) (gl_nil (ge_then (gc_seq (gc_seq (gc_reg (t 9 (iI 0) (gl_nil (ge_then (gc_block (gc_loop (fun i=>n - i) (fun (i:Nat)=>[(0,pg g),(1,iU v),(2,iU d),(6,pg g2),(7,iI 0),(8,iI 0),(9,iI (i:Int))]) (fun i w'=>i<=n/\Blk w' g [.slice ao n c] 30/\Blk w' g2 [zS,zS] 40/\Chg (KF g b c) w w'/\Lp w w'/\∃ F,Rn E F n i v (fun s=>(s.1,s.2.1,s.2.2.1 + 1,s.2.2.2))/\Ry w' b ao n c zz F) 0 ⟨Nat.zero_le _,X,Xg2,BB,LP,E,Rn.zero,YR⟩ (by kernel_rfl) ?_)))))))))))
 clear X Xg2 BB LP YR
 rintro i v3 ⟨hi,X,Xg2,BB,LP,F,hR,YR⟩
 refine gc_seq (gc_seq (gc_reg (t 14 (iI (i:Int)) (t 15 (pg g) (t 16 (pg g) (t 17 (pg g) (tl 18 (.slice ao n c) X 0 (t 19 (iI ((n:Nat):Int)) ?_))))))))
 by_cases c4:(i:Int) < ((n:Nat):Int)
 ·have hk_i:i < n:=by omega
  refine tq 20 (.bool (decide ((i:Int) < ((n:Nat):Int)))) (bT) (congrArg Value.bool (decide_eq_true c4)) (gl_nil (ge_then (gc_yes (gc_skip (ge_then (gc_seq (gc_block (gc_seq (gc_reg (t 23 (pg g) (t 24 (pg g) (t 25 (pg g) (tl 26 (.slice ao n c) X 0 (t 27 (iI (i:Int)) (tr 28 (pq b (i * 8)) (congr_v (by rw [Nat.zero_add]) (run_ixa 8 b 0 n c i hk_i YR.p0)) (t 29 (pq b (i * 8)) (tr 30 (iU (F i).v) (ldE1 YR hk_i 0 _ (by decide) rfl) (t 31 (iU v) ?_))))))))))))))))))
  by_cases c5:((F i).v:Int)=v
  ·refine tq 32 (.bool (((F i).v:Int) == v)) (bT) (congrArg Value.bool (beq_iff_eq.2 c5)) (gl_nil (ge_then (gc_fr [(0,pg g),(1,iU v),(2,iU d),(6,pg g2),(7,iI 0),(8,iI 0),(9,iI (i:Int)),(14,iI (i:Int)),(15,pg g),(16,pg g),(17,pg g),(18,.slice ao n c),(19,iI ((n:Nat):Int)),(20,bT),(23,pg g),(24,pg g),(25,pg g),(26,.slice ao n c),(27,iI (i:Int)),(28,pq b (i * 8)),(29,pq b (i * 8)),(30,iU (F i).v),(31,iU v),(32,bT)] (gc_yes (gc_reg (t 33 (pg g) (t 34 (pg g) (t 35 (pg g) (tl 36 (.slice ao n c) X 0 (t 37 (iI (i:Int)) (tr 38 (pq b (i * 8)) (congr_v (by rw [Nat.zero_add]) (run_ixa 8 b 0 n c i hk_i YR.p0)) (t 39 (pq b (i * 8 + 6)) (tr 40 (iI (F i).p) (ldE1 YR hk_i 6 _ (by decide) rfl) (tq 41 (iI (IntKind.i64.wrap ((F i).p + 1))) (iI ((F i).p + 1)) (wi ((by have q1:=hK i hk_i; have q2:=hR.same hk_i; simp only [stk,Prod.mk.injEq] at q2; omega))) (tr 42 (pq b (i * 8)) (congr_v (by rw [Nat.zero_add]) (run_ixa 8 b 0 n c i hk_i YR.p0)) (t 43 (pq b (i * 8 + 6)) (ts (YR.blk (YR.c0 hk_i)) (i * 8 + 6) (iI ((F i).p + 1)) [iI ((F i).p + 1)] (fl (upE F i ⟨(F i).v,(F i).d,(F i).wv,(F i).ov,(F i).r,(F i).o,(F i).p + 1,(F i).k⟩) n ++ zrs zz) ?_ (hb:=fl_room F hk_i 6 [iI ((F i).p + 1)] (zrs zz) (Nat.le_of_ble_eq_true rfl)) (he:=fl_set F hk_i 6 [iI ((F i).p + 1)] ⟨(F i).v,(F i).d,(F i).wv,(F i).ov,(F i).r,(F i).o,(F i).p + 1,(F i).k⟩ (zrs zz) (Nat.le_of_ble_eq_true rfl) rfl))))))))))))))))))
   intro v6 Y C
   obtain ⟨YR2,P⟩:=YR.st hk_i 6 [iI ((F i).p + 1)] ⟨(F i).v,(F i).d,(F i).wv,(F i).ov,(F i).r,(F i).o,(F i).p + 1,(F i).k⟩ (Nat.le_of_ble_eq_true rfl) rfl rfl rfl (by rfl) (YR.q i hk_i).1 (YR.q i hk_i).2 Y C
   replace X:=X.chg C (YR.ne X (by decide) (YR.c0 hk_i)).symm
   replace BB:=chS BB C (YR.c0 hk_i)
   replace LP:=LP.trans P
   replace Xg2:=Xg2.chg C (YR.ne Xg2 (by decide) (YR.c0 hk_i)).symm
   clear YR C P
   have YR:=YR2
   clear YR2
   obtain ⟨E7,hE7⟩:∃ E7,upE F i ⟨(F i).v,(F i).d,(F i).wv,(F i).ov,(F i).r,(F i).o,(F i).p + 1,(F i).k⟩=E7:=⟨_,rfl⟩
   rw [hE7] at YR
   have eE7:(E7 i).p=(F i).p + 1/\(E7 i).k=(F i).k:=by rw [<- hE7]; simp [upE]
   replace hR:=hR.step hk_i c5 (e:=⟨(F i).v,(F i).d,(F i).wv,(F i).ov,(F i).r,(F i).o,(F i).p + 1,(F i).k⟩) rfl rfl rfl
   rw [hE7] at hR
   exact gl_nil (ge_bn (ge_then (gc_reg (t 21 (iI (i:Int)) (tq 22 (iI (IntKind.i64.wrap ((i:Int) + 1))) (iI ((i:Int) + 1)) (wi (by omega)) (t 9 (iI ((i:Int) + 1)) (gl_nil (ge_round (i + 1) (by omega) ⟨by omega,X,Xg2,BB,LP,E7,hR,YR⟩ (by kernel_rfl)))))))))
  ·exact tq 32 (.bool (((F i).v:Int) == v)) (bF) (congrArg Value.bool (beq_eq_false_iff_ne.2 c5)) (gl_nil (ge_then (gc_fr [(0,pg g),(1,iU v),(2,iU d),(6,pg g2),(7,iI 0),(8,iI 0),(9,iI (i:Int)),(14,iI (i:Int)),(15,pg g),(16,pg g),(17,pg g),(18,.slice ao n c),(19,iI ((n:Nat):Int)),(20,bT),(23,pg g),(24,pg g),(25,pg g),(26,.slice ao n c),(27,iI (i:Int)),(28,pq b (i * 8)),(29,pq b (i * 8)),(30,iU (F i).v),(31,iU v),(32,bF)] (gc_no (gc_skip (ge_bn (ge_then (gc_reg (t 21 (iI (i:Int)) (tq 22 (iI (IntKind.i64.wrap ((i:Int) + 1))) (iI ((i:Int) + 1)) (wi (by omega)) (t 9 (iI ((i:Int) + 1)) (gl_nil (ge_round (i + 1) (by omega) ⟨by omega,X,Xg2,BB,LP,F,(hR.skip hk_i c5),YR⟩ (by kernel_rfl))))))))))))))
 ·have hin:i=n:=by omega
  rw [hin] at hR
  have hI:∀ j,j < n->(F j).v=(E j).v/\(F j).d=(E j).d:=fun j hj=>⟨(hR j hj).1,(hR j hj).2.1⟩
  replace hR:=hR.done
  have hyF:(F i0).v=v/\(F i0).d=d:=⟨(hI i0 hk_i0).1.trans hy.1,(hI i0 hk_i0).2.trans hy.2⟩
  have huF:=((hKn.same hI).other hk_i0 hyF)
  refine tq 20 (.bool (decide ((i:Int) < ((n:Nat):Int)))) (bF) (congrArg Value.bool (decide_eq_false c4)) (gl_nil (ge_then (gc_no (gc_exit (ge_tx (ge_tx (ge_bx (ge_then (gc_seq (gc_reg (t 44 (pg g) (t 45 (iU v) (t 46 (iU d) (tc 47 59 #[pg g,iU v,iU d] (at_yes hv hd X YR hn hk_i0 hyF (fun j hj=>huF j (by omega) (by omega))) ?_))))))))))))))
  rintro _ v8 ⟨rfl,B⟩
  refine ⟨_,rfl,?_⟩
  replace X:=X.keep B
  replace YR:=YR.keep B
  replace BB:=chB BB B
  replace LP:=LP.trans (Lp.of B)
  replace Xg2:=Xg2.keep B
  refine t 10 (iI (i0:Int)) (gl_nil (ge_then (gc_fr [(0,pg g),(6,pg g2),(7,iI 0),(8,iI 0),(10,iI (i0:Int))] (gc_seq (gc_seq (gc_reg (t 48 (iI (i0:Int)) (tq 49 (.bool (decide ((i0:Int) < 0))) (bF) (congrArg Value.bool (decide_eq_false (by omega))) (gl_nil (ge_then (gc_no (gc_skip (ge_then (gc_seq ?_))))))))))))))
  replace X:=X.drew
  replace YR:=YR.drew
  replace BB:=chB BB (Below.refl _ _).drew
  replace LP:=LP.trans (Lp.of (Below.refl _ _).drew)
  replace Xg2:=Xg2.drew
  refine gc_draw (fun w'=>Blk w' g [.slice ao n c] 30/\Ry w' b ao n c zz F) (fun _=>false) ⟨X,YR⟩ ?_
  refine z 0 51 (pg g) (z 1 52 (pg g) (z 2 53 (pg g) (zl 3 54 (.slice ao n c) (fun _ h=>h.1) 0 (z 4 55 (iI (i0:Int)) (zr 5 56 (pq b (i0 * 8)) (fun _ _=>congr_v (by rw [Nat.zero_add]) (run_ixa 8 b 0 n c i0 hk_i0 YR.p0)) (z 6 57 (pq b (i0 * 8 + 4)) ?_))))))
  have QA:=(YR.q i0 hk_i0).2
  refine zr 7 58 (.agg #[.slice (F i0).ov.1 (F i0).ov.2.1 (F i0).ov.2.2.1,.slice (F i0).ov.2.2.2.1 (F i0).ov.2.2.2.2.1 (F i0).ov.2.2.2.2.2]) (fun _ h=>ldE2 h.2 hk_i0 4 _ (by decide) rfl rfl) (z 8 59 (pg g) (z 9 60 (pg g) (z 10 61 (pg g) (zl 11 62 (.slice ao n c) (fun _ h=>h.1) 0 (z 12 63 (iI (i0:Int)) (zr 13 64 (pq b (i0 * 8)) (fun _ _=>congr_v (by rw [Nat.zero_add]) (run_ixa 8 b 0 n c i0 hk_i0 YR.p0)) (z 14 65 (pq b (i0 * 8 + 6)) (zr 15 66 (iI (F i0).p) (fun _ h=>ldE1 h.2 hk_i0 6 _ (by decide) rfl) (z 16 67 (pg g) (z 17 68 (pg g) (z 18 69 (pg g) (zl 19 70 (.slice ao n c) (fun _ h=>h.1) 0 (z 20 71 (iI (i0:Int)) (zr 21 72 (pq b (i0 * 8)) (fun _ _=>congr_v (by rw [Nat.zero_add]) (run_ixa 8 b 0 n c i0 hk_i0 YR.p0)) (z 22 73 (pq b (i0 * 8 + 7)) (zr 23 74 (iI (F i0).k) (fun _ h=>ldE1 h.2 hk_i0 7 _ (by decide) rfl) ?_))))))))))))))))
  have lX:=X.lt
  have lXg2:=Xg2.lt
  refine za 24 11 [zS,zS] 40 (pg) ?_
  intro v9 g10 Xg10 hg10 B
  have hbg10:=Nat.le_trans BB.size hg10
  replace X:=X.keep B
  replace YR:=YR.keep B
  replace BB:=chB BB B
  replace LP:=LP.trans (Lp.of B)
  replace Xg2:=Xg2.keep B
  replace QA:=QA.keep B
  refine ⟨⟨X,YR⟩,?_⟩
  refine zs 25 Xg10 0 (.agg #[.slice (F i0).ov.1 (F i0).ov.2.1 (F i0).ov.2.2.1,.slice (F i0).ov.2.2.2.1 (F i0).ov.2.2.2.2.1 (F i0).ov.2.2.2.2.2]) [.slice (F i0).ov.1 (F i0).ov.2.1 (F i0).ov.2.2.1,.slice (F i0).ov.2.2.2.1 (F i0).ov.2.2.2.2.1 (F i0).ov.2.2.2.2.2] [.slice (F i0).ov.1 (F i0).ov.2.1 (F i0).ov.2.2.1,.slice (F i0).ov.2.2.2.1 (F i0).ov.2.2.2.2.1 (F i0).ov.2.2.2.2.2] ?_
  intro v11 Y C
  replace X:=X.chg C (show g≠g10 by omega)
  replace YR:=YR.cg Xg10 C (by rfl) (by decide)
  replace BB:=chN BB C (by omega)
  replace LP:=LP.trans (Lp.cg Xg10 C (by rfl))
  replace Xg2:=Xg2.chg C (show g2≠g10 by omega)
  replace QA:=QA.cg Xg10 C (by rfl)
  have Xg10:=Y
  refine ⟨⟨X,YR⟩,?_⟩
  refine z 26 12 (iI (F i0).p) (z 27 13 (iI (F i0).k) (gz_done (ge_then (gc_fr [(0,pg g),(6,pg g2),(7,iI 0),(8,iI 0),(10,iI (i0:Int)),(11,pg g10),(12,iI (F i0).p),(13,iI (F i0).k)] (gc_seq ?_)))))
  replace X:=X.drew
  replace YR:=YR.drew
  replace BB:=chB BB (Below.refl _ _).drew
  replace LP:=LP.trans (Lp.of (Below.refl _ _).drew)
  replace Xg2:=Xg2.drew
  replace QA:=QA.drew
  replace Xg10:=Xg10.drew
  refine gc_draw (fun w'=>Blk w' g [.slice ao n c] 30/\Ry w' b ao n c zz F) (fun i=>decide (18<=i)) ⟨X,YR⟩ ?_
  refine zp 0 75 (pg g) (zp 1 76 (pg g) (zp 2 77 (pg g) (zl 3 78 (.slice ao n c) (fun _ h=>h.1) 0 (zp 4 79 (iI (i0:Int)) (zp 5 80 (pg g) (zp 6 81 (pg g) (zp 7 82 (pg g) (zl 8 83 (.slice ao n c) (fun _ h=>h.1) 0 (zp 9 84 (iI (i0:Int)) (zp 10 85 (pg g) (zp 11 86 (pg g) (zp 12 87 (pg g) (zl 13 88 (.slice ao n c) (fun _ h=>h.1) 0 (zp 14 89 (iI (i0:Int)) (zc 15 90 60 #[] (nothing_any) ?_)))))))))))))))
  rintro _ v13 ⟨aq12,kq12,dq12,bq12,lq12,eq12,rfl,Qq12,B⟩
  replace X:=X.keep B
  replace YR:=YR.keep B
  replace BB:=chB BB B
  replace LP:=LP.trans (Lp.of B)
  replace Xg2:=Xg2.keep B
  replace QA:=QA.keep B
  replace Xg10:=Xg10.keep B
  refine ⟨_,rfl,⟨X,YR⟩,?_⟩
  refine zp 16 91 (pq b (i0 * 8)) ?_ (hrun:=fun _=>congr_v (by rw [Nat.zero_add]) (run_ixa 8 b 0 n c i0 hk_i0 YR.p0))
  refine zp 17 92 (pq b (i0 * 8 + 4)) (gz_late (ys 18 (YR.blk (YR.c0 hk_i0)) (i0 * 8 + 4) (.agg #[.slice aq12 kq12 dq12,.slice bq12 lq12 eq12]) [.slice aq12 kq12 dq12,.slice bq12 lq12 eq12] (fl (upE F i0 ⟨(F i0).v,(F i0).d,(F i0).wv,(aq12,kq12,dq12,bq12,lq12,eq12),(F i0).r,(0:Rat),(F i0).p,(F i0).k⟩) n ++ zrs zz) ?_ (hb:=fl_room F hk_i0 4 [.slice aq12 kq12 dq12,.slice bq12 lq12 eq12] (zrs zz) (Nat.le_of_ble_eq_true rfl)) (he:=fl_set F hk_i0 4 [.slice aq12 kq12 dq12,.slice bq12 lq12 eq12] ⟨(F i0).v,(F i0).d,(F i0).wv,(aq12,kq12,dq12,bq12,lq12,eq12),(F i0).r,(0:Rat),(F i0).p,(F i0).k⟩ (zrs zz) (Nat.le_of_ble_eq_true rfl) rfl)))
  intro v14 Y C
  obtain ⟨YR2,P⟩:=YR.st hk_i0 4 [.slice aq12 kq12 dq12,.slice bq12 lq12 eq12] ⟨(F i0).v,(F i0).d,(F i0).wv,(aq12,kq12,dq12,bq12,lq12,eq12),(F i0).r,(0:Rat),(F i0).p,(F i0).k⟩ (Nat.le_of_ble_eq_true rfl) rfl rfl rfl (by rfl) (YR.q i0 hk_i0).1 Qq12 Y C
  replace X:=X.chg C (YR.ne X (by decide) (YR.c0 hk_i0)).symm
  replace BB:=chS BB C (YR.c0 hk_i0)
  replace LP:=LP.trans P
  replace Xg2:=Xg2.chg C (YR.ne Xg2 (by decide) (YR.c0 hk_i0)).symm
  replace QA:=QA.lp P
  replace Xg10:=Xg10.chg C (YR.ne Xg10 (by decide) (YR.c0 hk_i0)).symm
  replace Qq12:=Qq12.lp P
  clear YR C P
  have YR:=YR2
  clear YR2
  obtain ⟨E15,hE15⟩:∃ E15,upE F i0 ⟨(F i0).v,(F i0).d,(F i0).wv,(aq12,kq12,dq12,bq12,lq12,eq12),(F i0).r,(0:Rat),(F i0).p,(F i0).k⟩=E15:=⟨_,rfl⟩
  rw [hE15] at YR
  have eE15:(E15 i0).p=(F i0).p/\(E15 i0).k=(F i0).k:=by rw [<- hE15]; simp [upE]
  refine yt 19 93 (pq b (i0 * 8)) ?_ (hrun:=congr_v (by rw [Nat.zero_add]) (run_ixa 8 b 0 n c i0 hk_i0 YR.p0))
  refine yt 20 94 (pq b (i0 * 8 + 6)) (ys 21 (YR.blk (YR.c0 hk_i0)) (i0 * 8 + 6) (iI 0) [iI 0] (fl (upE E15 i0 ⟨(E15 i0).v,(E15 i0).d,(E15 i0).wv,(E15 i0).ov,(E15 i0).r,(E15 i0).o,0,(E15 i0).k⟩) n ++ zrs zz) ?_ (hb:=fl_room E15 hk_i0 6 [iI 0] (zrs zz) (Nat.le_of_ble_eq_true rfl)) (he:=fl_set E15 hk_i0 6 [iI 0] ⟨(E15 i0).v,(E15 i0).d,(E15 i0).wv,(E15 i0).ov,(E15 i0).r,(E15 i0).o,0,(E15 i0).k⟩ (zrs zz) (Nat.le_of_ble_eq_true rfl) rfl))
  intro v16 Y C
  obtain ⟨YR2,P⟩:=YR.st hk_i0 6 [iI 0] ⟨(E15 i0).v,(E15 i0).d,(E15 i0).wv,(E15 i0).ov,(E15 i0).r,(E15 i0).o,0,(E15 i0).k⟩ (Nat.le_of_ble_eq_true rfl) rfl rfl rfl (by rfl) (YR.q i0 hk_i0).1 (YR.q i0 hk_i0).2 Y C
  replace X:=X.chg C (YR.ne X (by decide) (YR.c0 hk_i0)).symm
  replace BB:=chS BB C (YR.c0 hk_i0)
  replace LP:=LP.trans P
  replace Xg2:=Xg2.chg C (YR.ne Xg2 (by decide) (YR.c0 hk_i0)).symm
  replace QA:=QA.lp P
  replace Xg10:=Xg10.chg C (YR.ne Xg10 (by decide) (YR.c0 hk_i0)).symm
  replace Qq12:=Qq12.lp P
  clear YR C P
  have YR:=YR2
  clear YR2
  obtain ⟨E17,hE17⟩:∃ E17,upE E15 i0 ⟨(E15 i0).v,(E15 i0).d,(E15 i0).wv,(E15 i0).ov,(E15 i0).r,(E15 i0).o,0,(E15 i0).k⟩=E17:=⟨_,rfl⟩
  rw [hE17] at YR
  have eE17:(E17 i0).p=0/\(E17 i0).k=(E15 i0).k:=by rw [<- hE17]; simp [upE]
  refine yt 22 95 (pq b (i0 * 8)) ?_ (hrun:=congr_v (by rw [Nat.zero_add]) (run_ixa 8 b 0 n c i0 hk_i0 YR.p0))
  refine yt 23 96 (pq b (i0 * 8 + 7)) (ys 24 (YR.blk (YR.c0 hk_i0)) (i0 * 8 + 7) (iI 0) [iI 0] (fl (upE E17 i0 ⟨(E17 i0).v,(E17 i0).d,(E17 i0).wv,(E17 i0).ov,(E17 i0).r,(E17 i0).o,(E17 i0).p,0⟩) n ++ zrs zz) ?_ (hb:=fl_room E17 hk_i0 7 [iI 0] (zrs zz) (Nat.le_of_ble_eq_true rfl)) (he:=fl_set E17 hk_i0 7 [iI 0] ⟨(E17 i0).v,(E17 i0).d,(E17 i0).wv,(E17 i0).ov,(E17 i0).r,(E17 i0).o,(E17 i0).p,0⟩ (zrs zz) (Nat.le_of_ble_eq_true rfl) rfl))
  intro v18 Y C
  obtain ⟨YR2,P⟩:=YR.st hk_i0 7 [iI 0] ⟨(E17 i0).v,(E17 i0).d,(E17 i0).wv,(E17 i0).ov,(E17 i0).r,(E17 i0).o,(E17 i0).p,0⟩ (Nat.le_of_ble_eq_true rfl) rfl rfl rfl (by rfl) (YR.q i0 hk_i0).1 (YR.q i0 hk_i0).2 Y C
  replace X:=X.chg C (YR.ne X (by decide) (YR.c0 hk_i0)).symm
  replace BB:=chS BB C (YR.c0 hk_i0)
  replace LP:=LP.trans P
  replace Xg2:=Xg2.chg C (YR.ne Xg2 (by decide) (YR.c0 hk_i0)).symm
  replace QA:=QA.lp P
  replace Xg10:=Xg10.chg C (YR.ne Xg10 (by decide) (YR.c0 hk_i0)).symm
  replace Qq12:=Qq12.lp P
  clear YR C P
  have YR:=YR2
  clear YR2
  obtain ⟨E19,hE19⟩:∃ E19,upE E17 i0 ⟨(E17 i0).v,(E17 i0).d,(E17 i0).wv,(E17 i0).ov,(E17 i0).r,(E17 i0).o,(E17 i0).p,0⟩=E19:=⟨_,rfl⟩
  rw [hE19] at YR
  have eE19:(E19 i0).p=(E17 i0).p/\(E19 i0).k=0:=by rw [<- hE19]; simp [upE]
  have e12:E19=upE F i0 ⟨(F i0).v,(F i0).d,(F i0).wv,(E15 i0).ov,(F i0).r,(E15 i0).o,0,0⟩:=by
   subst hE15 hE17 hE19
   funext j
   by_cases q:j=i0
   ·subst q; simp [upE]
   ·simp [upE,q]
  have eO:(E15 i0).o=0:=by subst hE15; simp [upE]
  have hS:sO E19 n=sClear (sTick (sO E n) v) v d:=by
   rw [show sTick (sO E n) v=sO F n from hR.symm]
   refine sO_at hk_i0 hyF (fun j hj hne=>huF j hj hne) fun j hj => ?_
   rw [e12]
   by_cases q:j=i0
   ·subst q; simp [upE,stk,eO]
   ·simp [upE,q,stk]
  refine gy_done (ge_then (gc_fr [(6,pg g2),(7,iI 0),(8,iI 0),(11,pg g10),(12,iI (F i0).p),(13,iI (F i0).k)] (gc_seq (gc_reg (tlr 97 [.slice (F i0).ov.1 (F i0).ov.2.1 (F i0).ov.2.2.1,.slice (F i0).ov.2.2.2.1 (F i0).ov.2.2.2.2.1 (F i0).ov.2.2.2.2.2] Xg10 0 (t 98 (iI (F i0).p) (t 99 (iI (F i0).k) (ts Xg2 0 (.agg #[.slice (F i0).ov.1 (F i0).ov.2.1 (F i0).ov.2.2.1,.slice (F i0).ov.2.2.2.1 (F i0).ov.2.2.2.2.1 (F i0).ov.2.2.2.2.2]) [.slice (F i0).ov.1 (F i0).ov.2.1 (F i0).ov.2.2.1,.slice (F i0).ov.2.2.2.1 (F i0).ov.2.2.2.2.1 (F i0).ov.2.2.2.2.2] [.slice (F i0).ov.1 (F i0).ov.2.1 (F i0).ov.2.2.1,.slice (F i0).ov.2.2.2.1 (F i0).ov.2.2.2.2.1 (F i0).ov.2.2.2.2.2] ?_))))))))
  intro v20 Y C
  replace X:=X.chg C (show g≠g2 by omega)
  replace YR:=YR.cg Xg2 C (by rfl) (by decide)
  replace BB:=chN BB C (by omega)
  replace LP:=LP.trans (Lp.cg Xg2 C (by rfl))
  replace QA:=QA.cg Xg2 C (by rfl)
  replace Xg10:=Xg10.chg C (show g10≠g2 by omega)
  replace Qq12:=Qq12.cg Xg2 C (by rfl)
  have Xg2:=Y
  refine t 7 (iI (F i0).p) (t 8 (iI (F i0).k) (gl_nil (ge_then (gc_ret (ge_ret (.tuple #[.agg #[.slice (F i0).ov.1 (F i0).ov.2.1 (F i0).ov.2.2.1,.slice (F i0).ov.2.2.2.1 (F i0).ov.2.2.2.2.1 (F i0).ov.2.2.2.2.2],iI (F i0).p,iI (F i0).k]) (rsc3 6 7 8 (T:=40) (by kernel_rfl) (by kernel_rfl) (by kernel_rfl) (by kernel_rfl) (lr Xg2 0)) ?_)))))
  have hT:sTold (sTick (sO E n) v) v d=((F i0).o,(F i0).p,(F i0).k):=by
   rw [show sTick (sO E n) v=sO F n from hR.symm]; unfold sTold; rw [sO_yes hk_i0 hyF (fun j hj=>huF j (by omega) (by omega))]
  exact ⟨(F i0).ov.1,(F i0).ov.2.1,(F i0).ov.2.2.1,(F i0).ov.2.2.2.1,(F i0).ov.2.2.2.2.1,(F i0).ov.2.2.2.2.2,_,by rw [hT],by rw [hT]; exact QA,X,YR,hS,BB,LP⟩
end Lg
end Go.Proofs.YtlbndpkdkdgggaaGreatDoor
