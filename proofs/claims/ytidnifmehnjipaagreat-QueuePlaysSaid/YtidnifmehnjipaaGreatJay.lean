import Derived.Test.YtidnifmehnjipaaGreatJal
import Derived.Test.YtidnifmehnjipaaGreatJat
set_option maxRecDepth 100000
set_option maxHeartbeats 8000000
namespace Go.Proofs.YtidnifmehnjipaaGreat
namespace Ks
open Go.RowKit Go.Lib Pg Gl
attribute [local go_sem] Oper.semAt_some
set_option linter.unusedVariables false
set_option linter.unusedSimpArgs false
theorem DD{w:World}{k:Int}{N m0 m1:Int}(h:Ky.frm k=(N,m0,m1)):Calls Tryz.prog 88 #[.int .i64 k] w fun e w'=>e=.returned (.tuple #[.int .u8 m0,.int .i64 (N / 8),.int .u8 m1])/\Below w.heap.size w w':=by
 refine(Ky.j1 (k:=k)).mono ?_
 rw[h];rintro e w' ⟨rfl,rfl⟩;exact⟨rfl,Below.refl _ _⟩
theorem frm_k(k:Nat)(h:k < 18)(h0:1<=k):∃ N m0 m1:Int,Ky.frm k=(N,m0,m1)/\((N=1/\m1=0)\/(N=9/\m1=0)\/(N=10/\m1≠0)\/(N=17/\m1=0)\/(N=18/\m1≠0)):=⟨_,_,_,rfl,Ky.mb k h h0⟩
theorem bv8{l:List Int}(a:Oct l):0<=Ky.bv ((l.drop 1).take 8)/\Ky.bv ((l.drop 1).take 8) < 18446744073709551616:=by
 exact Ky.tE (fun x hx=>a x (List.mem_of_mem_drop (List.mem_of_mem_take hx))) (by rw[List.length_take];omega)
theorem zt{l:List Int}(hl:l.length=17):Ky.bv (((l.drop 1).drop 8).take 8)=Ky.rdB l:=by
 rw[Ky.rdB,if_pos (by omega),hl,List.drop_drop,List.take_of_length_le (by rw[List.length_drop];omega)]
theorem rmk17{w:World}{k:Nat}{N m0 m1:Int}{l:List Int}(d:Oct l)(f:N=17)(a:Ky.frm k=(N,m0,m1)):Calls Tryz.prog 37 #[.agg #[.int .i64 (k:Int),.int .u64 (Ky.rdA k l),.int .u64 (Ky.rdB l)]] w fun e w'=>∃ ao n c,e=.returned (.tuple #[.slice ao n c,.int .i64 0])/\By w' (.slice ao n c) (Ky.mk k (Ky.rdA k l) (Ky.rdB l))/\Below w.heap.size w w':=by
 have r:=Ky.wC (k:=k) d;refine(Ky.kJ (w:=w) (b:=Ky.rdB l) r.1 r.2).mono ?_
 rw[show Ky.mkE k (Ky.rdA k l) (Ky.rdB l)=false by unfold Ky.mkE;rw[a,f];simp];rintro e w' ⟨v,rfl,O,b⟩;obtain⟨ao,c,rfl⟩:=Ky.OB.sh O;exact⟨ao,_,c,rfl,O.by,b⟩
theorem run_s1{ρ:Operand->Value}{w:World}{op:Oper}{b o c:Nat}(hc:17<=c)(d:∃ x,op.op=.slice 36 x (some (.const (.int .i64 1))) none none/\ρ x=.slice (some ⟨b,o,none⟩) 17 c/\ρ (.const (.int .i64 1))=.int .i64 1:=by exact⟨_,rfl,by kernel_rfl,by kernel_rfl⟩):(execOp ρ op).run Tryz.prog w=.ok (.value (.slice (some ⟨b,o+1,none⟩) 16 (c - 1))) w:=by
 obtain⟨x,h,hx,f⟩:=d
 have g:¬ ((c:Int)=1):=by omega
 have i:(17:Int)<=c:=by omega
 have j:¬ ((c:Int) < 17):=by omega
 simp only[execOp,h,hx,f];go_simp;omega
theorem Ez{k r:Nat}{l:List Int}(e:k=r)(hr1:r < 18)(hr0:0 < r)(ho:Oct l)(hf:Ky.frm r=Ky.fIn l):decide (Ky.mk k (Ky.rdA k l) (Ky.rdB l)=l)=true:=by
 subst e;exact decide_eq_true (Ky.fIn_mk hr1 hr0 ho hf)
theorem miss17{k r:Nat}{N m0 m1:Int}{l:List Int}(e:k≠r)(a:1<=k)(d:k < 18)(f:Oct l)(c:Ky.frm k=(N,m0,m1))(i:N=17)(g:l.length=17)(hf:Ky.frm r=Ky.fIn l)(b:∀ k:Nat,k < 18->Ky.frm k=Ky.frm r->k=r):decide (Ky.mk k (Ky.rdA k l) (Ky.rdB l)=l)=false :=
 decide_eq_false fun h=>e (b k d ((Ky.mk_fIn d a f (by rw[c,i,g];rfl) h).trans hf.symm))
theorem Es{w:World}{b o c r:Nat}{l:List Int}(h:By w (.slice (some ⟨b,o,none⟩) 17 c) l)(S:r < 18)(H:0 < r)(hf:Ky.frm r=Ky.fIn l)(ac:∀ k:Nat,k < 18->Ky.frm k=Ky.frm r->k=r):Calls Tryz.prog 157 #[.slice (some ⟨b,o,none⟩) 17 c] w fun e w'=>e=.returned (.tuple #[.agg #[.int .i64 (r:Int),.int .u64 (Ky.rdA r l),.int .u64 (Ky.rdB l)],.int .i64 0])/\Below w.heap.size w w':=by
 have M:l.length=17:=(Ky.By.lens h).1
 have A:∀ {k:Nat} {N m0 m1:Int},Ky.frm k=(N,m0,m1)->k=r->¬ N=17->False:=fun {k N m0 m1} h1 e h2=>by
  subst e;rw[h1] at hf;have R:=congrArg Prod.fst hf;unfold Ky.fIn at R;simp only[M] at R;exact h2 R
 have f:=Below.refl w.heap.size w;have hc:=(Ky.By.lens h).2.1;have hcm:=(Ky.By.lens h).2.2;refine aC (n:=70) Tryz.func157 rfl ?_
 refine ab (ag (ta 2 [iI 0,iU 0,iU 0] 90 (pg) ?_));intro v1 p a W B;have yg2:=Nat.le_trans f.size W;skip;replace f:=ai f B;refine t 3 (iI 0) (ae (aa (ab (ab (ag (t 4 (iI 1) (ae (aa (bj (ic (fun s=>18 - s) (fun(s:Nat)=>[(0,.slice (some ⟨b,o,none⟩) 17 c),(2,pg p),(3,iI 0),(4,iI (s:Int))]) (fun s w'=>1<=s/\s<=r/\Below w.heap.size w w'/\Blk w' p [iI 0,iU 0,iU 0] 90) (1:Nat) ⟨Nat.le_refl _,H,f,a⟩ (by kernel_rfl) ?_))))))))));clear f;clear a;rintro k v3 ⟨J,ak,f,a⟩;obtain⟨N,m0,m1,v,hNk⟩:=frm_k k (by omega) J;have hwv:=f.size;have lg:=a.lt;refine ab (ab (ag (t 13 (iI (k:Int)) ?_)))
 have c4:(k:Int)<=17:=by omega
 refine tq 14 (.bool (decide ((k:Int)<=17))) (bT) (congrArg Value.bool (decide_eq_true c4)) (ae (aa (aP (aK (aa (ab (bj (ab (ag (t 18 (iI (k:Int)) (tc 19 88 #[iI (k:Int)] (DD v) ?_)))))))))));rintro _ v5 ⟨rfl,B⟩;refine⟨_,rfl,?_⟩;replace f:=ai f B;replace a:=a.keep B;refine t 17 (.tuple #[.int .u8 m0,iI (N / 8),.int .u8 m1]) (t 20 (.int .u8 m0) (t 21 (iI (N / 8)) (t 22 (.int .u8 m1) (t 5 (.int .u8 m0) (t 6 (iI (N / 8)) (t 7 (.int .u8 m1) (ae (aa (ab (ag (t 23 (iI (N / 8)) (tq 24 (iI (IntKind.i64.wrap (8 * (N / 8)))) (iI (8 * (N / 8))) (wi (by omega)) (tq 25 (iI (IntKind.i64.wrap (1+(8 * (N / 8))))) (iI (1+(8 * (N / 8)))) (wi (by omega)) (t 8 (iI (1+(8 * (N / 8)))) (ae (aa (aG [(0,.slice (some ⟨b,o,none⟩) 17 c),(2,pg p),(3,iI 0),(4,iI (k:Int)),(6,iI (N / 8)),(7,.int .u8 m1),(8,iI (1+(8 * (N / 8)))),(13,iI (k:Int)),(14,bT),(17,.tuple #[.int .u8 m0,iI (N / 8),.int .u8 m1]),(18,iI (k:Int)),(19,.tuple #[.int .u8 m0,iI (N / 8),.int .u8 m1]),(20,.int .u8 m0),(21,iI (N / 8)),(22,.int .u8 m1),(23,iI (N / 8)),(24,iI (8 * (N / 8))),(25,iI (1+(8 * (N / 8))))] (ab (ab (ag (t 26 (.int .u8 m1) ?_)))))))))))))))))))));by_cases O:N=17
 ·have c6:(m1:Int)=0:=by omega
  refine tq 27 (.bool ((m1:Int) != 0)) (bF) (congrArg Value.bool (bne_eq_false_iff_eq.2 c6)) (ae (aa (aW (aK (aa (ab (ab (ag (t 30 (.slice (some ⟨b,o,none⟩) 17 c) (t 31 (iI 17) (t 32 (iI (1+(8 * (N / 8)))) ?_)))))))))))
  have c7:(17:Int)=1+(8 * (N / 8)):=by omega
  refine tq 33 (.bool ((17:Int) != 1+(8 * (N / 8)))) (bF) (congrArg Value.bool (bne_eq_false_iff_eq.2 c7)) (ae (aa (aW (aK (aa (ab (ag (t 34 (iI (k:Int)) (t 35 (.agg #[iI (k:Int),iU 0,iU 0]) ?_)))))))));have K:=a.lt;refine ta 9 [iI 0,iU 0,iU 0] 90 (pg) ?_
  intro v8 j d Z B;have yg9:=Nat.le_trans f.size Z;have L:=a.lt;replace f:=ai f B;replace a:=a.keep B;refine ts d 0 (.agg #[iI (k:Int),iU 0,iU 0]) [iI (k:Int),iU 0,iU 0] [iI (k:Int),iU 0,iU 0] ?_
  intro v10 Y C;replace f:=aS f C (by omega);replace a:=a.chg C (show p≠j by omega);have d:=Y;refine ae (aa (ab (ag (t 36 (.slice (some ⟨b,o,none⟩) 17 c) (tr 37 (.slice (some ⟨b,o+1,none⟩) 16 (c - 1)) (run_s1 hc) (t 38 (.agg #[.slice (some ⟨b,o+1,none⟩) 16 (c - 1),iI 0]) ?_))))));have K:=a.lt;have ad:=d.lt;refine ta 39 [.slice (some ⟨b,o+1,none⟩) 16 (c - 1),iI 0] 243 (pg) ?_
  intro v11 g i E B;have af:=Nat.le_trans f.size E;have G:=a.lt;have I:=d.lt;replace f:=ai f B;replace a:=a.keep B;replace d:=d.keep B;refine t 10 (pg g) (ae (aa (aG [(0,.slice (some ⟨b,o,none⟩) 17 c),(2,pg p),(3,iI 0),(4,iI (k:Int)),(6,iI (N / 8)),(7,.int .u8 m1),(8,iI (1+(8 * (N / 8)))),(9,pg j),(10,pg g),(13,iI (k:Int)),(14,bT),(17,.tuple #[.int .u8 m0,iI (N / 8),.int .u8 m1]),(18,iI (k:Int)),(19,.tuple #[.int .u8 m0,iI (N / 8),.int .u8 m1]),(20,.int .u8 m0),(21,iI (N / 8)),(22,.int .u8 m1),(23,iI (N / 8)),(24,iI (8 * (N / 8))),(25,iI (1+(8 * (N / 8)))),(26,.int .u8 m1),(27,bF),(30,.slice (some ⟨b,o,none⟩) 17 c),(31,iI 17),(32,iI (1+(8 * (N / 8)))),(33,bF),(34,iI (k:Int)),(35,.agg #[iI (k:Int),iU 0,iU 0]),(36,.slice (some ⟨b,o,none⟩) 17 c),(37,.slice (some ⟨b,o+1,none⟩) 16 (c - 1)),(38,.agg #[.slice (some ⟨b,o+1,none⟩) 16 (c - 1),iI 0]),(39,pg g)] (ab (ab (ag (t 40 (iI (N / 8)) ?_)))))))
  have X:(0:Int) < N / 8:=by omega
  refine tq 41 (.bool (decide ((0:Int) < N / 8))) (bT) (congrArg Value.bool (decide_eq_true X)) (ae (aa (aP (ag (t 42 (pg g) (tc 43 146 #[pg g,iI 8] (Ky.zU (m:=8) (Ky.By.drop h 1 (by decide)) f (by omega) i (by decide) (by decide)) ?_))))));rintro _ v14 ⟨rfl,Y,C⟩;refine⟨_,rfl,?_⟩;replace f:=aS f C (by omega);replace a:=a.chg C (show p≠g by omega);replace d:=d.chg C (show j≠g by omega);replace i:=Y (by omega);clear Y C;refine t 44 (pq j 1) (ts d 1 (iU (Ky.bv ((l.drop 1).take 8))) [iU (Ky.bv ((l.drop 1).take 8))] [iI (k:Int),iU (Ky.bv ((l.drop 1).take 8)),iU 0] ?_);intro aj Y C;replace f:=aS f C (by omega);replace a:=a.chg C (show p≠j by omega);replace i:=i.chg C (show g≠j by omega);have d:=Y;refine ae (aa (ab (ab (ag (t 45 (.int .u8 m1) ?_)))))
  have U:(m1:Int)=0:=by omega
  refine tq 46 (.bool ((m1:Int) != 0)) (bF) (congrArg Value.bool (bne_eq_false_iff_eq.2 U)) (ae (aa (aW (aK (aa (ab (ab (ag (t 49 (iI (N / 8)) ?_)))))))))
  have V:(1:Int) < N / 8:=by omega
  refine tq 50 (.bool (decide ((1:Int) < N / 8))) (bT) (congrArg Value.bool (decide_eq_true V)) (ae (aa (aP (ag (t 51 (pg g) (tc 52 146 #[pg g,iI 8] (Ky.zU (m:=8) (Ky.By.drop (Ky.By.drop h 1 (by decide)) 8 (by decide)) f (by omega) i (by decide) (by decide)) ?_))))));rintro _ v18 ⟨rfl,-,C⟩;refine⟨_,rfl,?_⟩;replace f:=aS f C (by omega);replace a:=a.chg C (show p≠g by omega);replace d:=d.chg C (show j≠g by omega);clear i C;refine t 53 (pq j 2) (ts d 2 (iU (Ky.bv (((l.drop 1).drop 8).take 8))) [iU (Ky.bv (((l.drop 1).drop 8).take 8))] [iI (k:Int),iU (Ky.bv ((l.drop 1).take 8)),iU (Ky.bv (((l.drop 1).drop 8).take 8))] ?_);intro an Y C;replace f:=aS f C (by omega);replace a:=a.chg C (show p≠j by omega);have d:=Y;refine ae (aa (aG [(0,.slice (some ⟨b,o,none⟩) 17 c),(2,pg p),(3,iI 0),(4,iI (k:Int)),(6,iI (N / 8)),(7,.int .u8 m1),(8,iI (1+(8 * (N / 8)))),(9,pg j),(10,pg g),(13,iI (k:Int)),(14,bT),(17,.tuple #[.int .u8 m0,iI (N / 8),.int .u8 m1]),(18,iI (k:Int)),(19,.tuple #[.int .u8 m0,iI (N / 8),.int .u8 m1]),(20,.int .u8 m0),(21,iI (N / 8)),(22,.int .u8 m1),(23,iI (N / 8)),(24,iI (8 * (N / 8))),(25,iI (1+(8 * (N / 8)))),(26,.int .u8 m1),(27,bF),(30,.slice (some ⟨b,o,none⟩) 17 c),(31,iI 17),(32,iI (1+(8 * (N / 8)))),(33,bF),(34,iI (k:Int)),(35,.agg #[iI (k:Int),iU 0,iU 0]),(36,.slice (some ⟨b,o,none⟩) 17 c),(37,.slice (some ⟨b,o+1,none⟩) 16 (c - 1)),(38,.agg #[.slice (some ⟨b,o+1,none⟩) 16 (c - 1),iI 0]),(39,pg g),(40,iI (N / 8)),(41,bT),(42,pg g),(43,iU (Ky.bv ((l.drop 1).take 8))),(44,pq j 1),(45,.int .u8 m1),(46,bF),(49,iI (N / 8)),(50,bT),(51,pg g),(52,iU (Ky.bv (((l.drop 1).drop 8).take 8))),(53,pq j 2)] ?_));refine gm (fun(_:Unit)=>[(0,.slice (some ⟨b,o,none⟩) 17 c),(2,pg p),(3,iI 0),(4,iI (k:Int)),(9,pg j)]) (fun _ w'=>Below w.heap.size w w'/\Blk w' p [iI 0,iU 0,iU 0] 90/\Blk w' j [iI (k:Int),iU (Ky.rdA k l),iU (Ky.rdB l)] 90) ?_ ?_
  ·refine ab (ag (t 54 (iI (k:Int)) ?_));by_cases y:(k:Int)=10
   ·refine tq 55 (.bool ((k:Int) == 10)) (bT) (congrArg Value.bool (beq_iff_eq.2 y)) (ae (aa (aP (ag (t 56 (pq j 1) (tl 57 (iU (Ky.bv ((l.drop 1).take 8))) d 1 (tq 58 (iU (IntKind.u64.wrap (18446744073709551615 - (Ky.bv ((l.drop 1).take 8))))) (iU (18446744073709551615 - (Ky.bv ((l.drop 1).take 8)))) (wu (by have:=bv8 h.oct;omega)) (t 59 (pq j 1) (ts d 1 (iU (18446744073709551615 - (Ky.bv ((l.drop 1).take 8)))) [iU (18446744073709551615 - (Ky.bv ((l.drop 1).take 8)))] [iI (k:Int),iU (18446744073709551615 - (Ky.bv ((l.drop 1).take 8))),iU (Ky.bv (((l.drop 1).drop 8).take 8))] ?_)))))))));intro ah Y C;replace f:=aS f C (by omega);replace a:=a.chg C (show p≠j by omega);have d:=Y;refine ae ?_
    have EA:Ky.rdA k l=(18446744073709551615 - (Ky.bv ((l.drop 1).take 8))):=by rw[Ky.rdA,if_pos (by omega)];unfold Ky.tn;rw[if_pos y]
    rw[<- EA,zt M] at d;exact bZ () ⟨f,a,d⟩ (by kernel_rfl)
   ·refine tq 55 (.bool ((k:Int) == 10)) (bF) (congrArg Value.bool (beq_eq_false_iff_ne.2 y)) (ae (aa (aW (aK ?_))))
    have EA:Ky.rdA k l=(Ky.bv ((l.drop 1).take 8)):=by rw[Ky.rdA,if_pos (by omega)];unfold Ky.tn;rw[if_neg y]
    rw[<- EA,zt M] at d;exact bZ () ⟨f,a,d⟩ (by kernel_rfl)
  clear f;clear a;clear d;rintro _ v22 ⟨f,a,d⟩;refine ab (ag (tlr 61 [iI (k:Int),iU (Ky.rdA k l),iU (Ky.rdB l)] d 0 (tc 62 37 #[.agg #[iI (k:Int),iU (Ky.rdA k l),iU (Ky.rdB l)]] (rmk17 h.oct O v) ?_)));rintro _ v23 ⟨am,q,u,rfl,z,B⟩;refine⟨_,rfl,?_⟩;replace f:=ai f B;replace a:=a.keep B;replace d:=d.keep B;refine t 60 (.tuple #[.slice am q u,iI 0]) (t 63 (.slice am q u) (t 64 (iI 0) (t 11 (.slice am q u) (t 12 (iI 0) (ae (aa (ab (ag (t 65 (.slice am q u) (t 66 (.slice (some ⟨b,o,none⟩) 17 c) ?_))))))))));by_cases x:k=r
  ·refine tc 67 61 #[.slice am q u,.slice (some ⟨b,o,none⟩) 17 c] (Ky.sq z (h.keep f) (Nat.le_trans (Ky.cL _ _ _) (by decide)) (by omega) (r:=true) (Ez x S H h.oct hf)) ?_
   rintro _ v25 ⟨rfl,B⟩;refine⟨_,rfl,?_⟩;replace f:=ai f B;replace a:=a.keep B;replace d:=d.keep B;replace z:=By.keep z B;clear z;refine ae (aa (aP (ab (ag (tlr 68 [iI (k:Int),iU (Ky.rdA k l),iU (Ky.rdB l)] d 0 (ts a 0 (.agg #[iI (k:Int),iU (Ky.rdA k l),iU (Ky.rdB l)]) [iI (k:Int),iU (Ky.rdA k l),iU (Ky.rdB l)] [iI (k:Int),iU (Ky.rdA k l),iU (Ky.rdB l)] ?_))))));intro v26 Y C;replace f:=aS f C (by omega);replace d:=d.chg C (show j≠p by omega);have a:=Y;refine t 3 (iI 0) (ae (aa (aG [(0,.slice (some ⟨b,o,none⟩) 17 c),(2,pg p),(3,iI 0),(4,iI (k:Int)),(9,pg j),(11,.slice am q u),(60,.tuple #[.slice am q u,iI 0]),(61,.agg #[iI (k:Int),iU (Ky.rdA k l),iU (Ky.rdB l)]),(62,.tuple #[.slice am q u,iI 0]),(63,.slice am q u),(64,iI 0),(65,.slice am q u),(66,.slice (some ⟨b,o,none⟩) 17 c),(67,bT),(68,.agg #[iI (k:Int),iU (Ky.rdA k l),iU (Ky.rdB l)])] (aF (jB (dm (dm (jB (dm (aE (.tuple #[.agg #[iI (k:Int),iU (Ky.rdA k l),iU (Ky.rdB l)],iI 0]) (iQ 2 3 (T:=90) (by kernel_rfl) (by kernel_rfl) (by kernel_rfl) (lr a 0)) ?_))))))))));obtain rfl:k=r:=x;exact⟨rfl,f⟩
  ·refine tc 67 61 #[.slice am q u,.slice (some ⟨b,o,none⟩) 17 c] (Ky.sq z (h.keep f) (Nat.le_trans (Ky.cL _ _ _) (by decide)) (by omega) (r:=false) (miss17 x J (by omega) h.oct v O M hf ac)) ?_
   rintro _ al ⟨rfl,B⟩;refine⟨_,rfl,?_⟩;replace f:=ai f B;replace a:=a.keep B;replace d:=d.keep B;replace z:=By.keep z B;clear z;refine ae (aa (aW (aK (dk (aa (ag (t 15 (iI (k:Int)) (tq 16 (iI (IntKind.i64.wrap ((k:Int)+1))) (iI ((k:Int)+1)) (wi (by omega)) (t 4 (iI ((k:Int)+1)) (ae ?_))))))))))
   have D:k≠r:=x;exact dK (k+1) (by show 18 - (k+1) < 18 - k;omega) ⟨by omega,by omega,f,a⟩ (by kernel_rfl)
 ·by_cases F:(m1:Int)=0
  ·refine tq 27 (.bool ((m1:Int) != 0)) (bF) (congrArg Value.bool (bne_eq_false_iff_eq.2 F)) (ae (aa (aW (aK (aa (ab (ab (ag (t 30 (.slice (some ⟨b,o,none⟩) 17 c) (t 31 (iI 17) (t 32 (iI (1+(8 * (N / 8)))) ?_)))))))))))
   have P:¬ ((17:Int)=1+(8 * (N / 8))):=by omega
   refine tq 33 (.bool ((17:Int) != 1+(8 * (N / 8)))) (bT) (congrArg Value.bool (bne_iff_ne.2 P)) (ae (aa (aP (dM (dC (gy (aa (ag (t 15 (iI (k:Int)) (tq 16 (iI (IntKind.i64.wrap ((k:Int)+1))) (iI ((k:Int)+1)) (wi (by omega)) (t 4 (iI ((k:Int)+1)) (ae ?_))))))))))))
   have D:k≠r:=fun e=>A v e O
   exact dK (k+1) (by show 18 - (k+1) < 18 - k;omega) ⟨by omega,by omega,f,a⟩ (by kernel_rfl)
  ·refine tq 27 (.bool ((m1:Int) != 0)) (bT) (congrArg Value.bool (bne_iff_ne.2 F)) (ae (aa (aP (ag (t 28 (iI (1+(8 * (N / 8)))) (tq 29 (iI (IntKind.i64.wrap ((1+(8 * (N / 8)))+1))) (iI ((1+(8 * (N / 8)))+1)) (wi (by omega)) (t 8 (iI ((1+(8 * (N / 8)))+1)) (ae (aa (ab (ab (ag (t 30 (.slice (some ⟨b,o,none⟩) 17 c) (t 31 (iI 17) (t 32 (iI ((1+(8 * (N / 8)))+1)) ?_)))))))))))))))
   have Q:¬ ((17:Int)=(1+(8 * (N / 8)))+1):=by omega
   refine tq 33 (.bool ((17:Int) != (1+(8 * (N / 8)))+1)) (bT) (congrArg Value.bool (bne_iff_ne.2 Q)) (ae (aa (aP (dM (dC (gy (aa (ag (t 15 (iI (k:Int)) (tq 16 (iI (IntKind.i64.wrap ((k:Int)+1))) (iI ((k:Int)+1)) (wi (by omega)) (t 4 (iI ((k:Int)+1)) (ae ?_))))))))))))
   have D:k≠r:=fun e=>A v e O
   exact dK (k+1) (by show 18 - (k+1) < 18 - k;omega) ⟨by omega,by omega,f,a⟩ (by kernel_rfl)
end Ks
end Go.Proofs.YtidnifmehnjipaaGreat
