/- Several texts, joined: FoK. -/
import Derived.Test.YthfepflplbahkaaGreatDoorJax
import Derived.Test.YthfepflplbahkaaGreatDoorJaz
set_option maxRecDepth 100000
set_option maxHeartbeats 8000000
namespace Go.Proofs.YthfepflplbahkaaGreatDoor
namespace Fo
open Go.RowKit Go.Lib Pg Lim Gl Kv Bk Pw
section
variable {w:World}{p ao:Option Addr}{K:Nat->Prop}{z n c:Nat}{x:Int}{v:Value}{l:List Int}
attribute [local go_sem] Oper.semAt_some
set_option linter.unusedVariables false
set_option linter.unusedSimpArgs false
theorem Bt{id fr la:Int}:Calls Tryz.prog 53 #[.pointer p,.int .u64 id,.int .u64 fr,.int .u64 la] w fun e w'=>e=.returned (.func (.func 81) #[] #[.pointer (some ⟨w.heap.size + 1,0,none⟩),.pointer (some ⟨w.heap.size + 1 + 1,0,none⟩),.pointer (some ⟨w.heap.size + 1 + 1 + 1,0,none⟩),.pointer (some ⟨w.heap.size,0,none⟩)])/\Blk w' w.heap.size [.pointer p] 37/\Blk w' (w.heap.size + 1) [.int .u64 id] 22/\Blk w' (w.heap.size + 1 + 1) [.int .u64 fr] 22/\Blk w' (w.heap.size + 1 + 1 + 1) [.int .u64 la] 22/\Below w.heap.size w w':=by
 obtain⟨w1,h1⟩:∃ w1,w1=w.alloc (.cells #[.pointer p] 37):=⟨_,rfl⟩
 obtain⟨w2,h2⟩:∃ w2,w2=w1.alloc (.cells #[.int .u64 id] 22):=⟨_,rfl⟩
 obtain⟨w3,h3⟩:∃ w3,w3=w2.alloc (.cells #[.int .u64 fr] 22):=⟨_,rfl⟩
 obtain⟨w4,h4⟩:∃ w4,w4=w3.alloc (.cells #[.int .u64 la] 22):=⟨_,rfl⟩
 have b1:=ae w (.cells #[.pointer p] 37);have c1:=aC w [.pointer p] 37
 have s1:(w.alloc (.cells #[.pointer p] 37)).heap.size=w.heap.size + 1:=by simp
 rw[<- h1] at b1 s1;have b2:=ae w1 (.cells #[.int .u64 id] 22);have c2:=aC w1 [.int .u64 id] 22
 have s2:(w1.alloc (.cells #[.int .u64 id] 22)).heap.size=w1.heap.size + 1:=by simp
 rw[<- h2] at b2 s2;have b3:=ae w2 (.cells #[.int .u64 fr] 22);have c3:=aC w2 [.int .u64 fr] 22
 have s3:(w2.alloc (.cells #[.int .u64 fr] 22)).heap.size=w2.heap.size + 1:=by simp
 rw[<- h3] at b3 s3;have b4:=ae w3 (.cells #[.int .u64 la] 22);have c4:=aC w3 [.int .u64 la] 22;rw[<- h4] at b4
 have d1:Blk w4 w.heap.size [.pointer p] 37:=by
  have q:Blk w1 w.heap.size [.pointer p] 37:=by rw[h1]; exact c1
  exact((q.keep b2).keep b3).keep b4
 have d2:Blk w4 (w.heap.size + 1) [.int .u64 id] 22:=by
  have q:Blk w2 w1.heap.size [.int .u64 id] 22:=by rw[h2]; exact c2
  rw[s1] at q;exact(q.keep b3).keep b4
 have d3:Blk w4 (w.heap.size + 1 + 1) [.int .u64 fr] 22:=by
  have q:Blk w3 w2.heap.size [.int .u64 fr] 22:=by rw[h3]; exact c3
  rw[s2,s1] at q;exact q.keep b4
 have d4:Blk w4 (w.heap.size + 1 + 1 + 1) [.int .u64 la] 22:=by
  have q:Blk w4 w3.heap.size [.int .u64 la] 22:=by rw[h4]; exact c4
  rw[s3,s2,s1] at q;exact q
 have bb:=ah (ah (ah b1 b2) b3) b4;have HH:=aB (And.intro d1 (And.intro d2 (And.intro d3 (And.intro d4 bb))));rw[h4,h3,h2,h1] at HH;clear d1 d2 d3 d4 bb b1 b2 b3 b4 c1 c2 c3 c4 s1 s2 s3 h1 h2 h3 h4;go_enter Tryz.func53,Tryz.ntmps53;go_wp2;go_ret;refine⟨by simp,?_⟩;simpa using HH.out
theorem Nq.at(h:Nq w K z ao n c x)(hn:n≠0):∃ o y,w.cell? ⟨z,o,none⟩=some (.int .u64 y):=by
 obtain⟨w2,hw2⟩:∃ w2:World,w2={ w with heap:=w.heap.mapIdx (fun i o=>if i=z then o else .deferred none) }:=⟨_,rfl⟩
 have hz:w2.heap[z]? = w.heap[z]? := by
  rw[hw2];simp only[Array.getElem?_mapIdx,if_true]
  cases w.heap[z]? <;> rfl
 obtain⟨b,o,l,h1,h2,h3,h4⟩:=(h.to w2 (fun _=>hz)).ex;have h5:=h4.cell 0 (by omega);by_cases hb:b=z
 ·subst hb;rw[World.cell?_of_block (w:=w) (a:=⟨b,o + 0,none⟩) hz] at h5;exact⟨_,_,h5⟩
 ·exfalso
  have h6:w2.heap[b]? = none\/w2.heap[b]? = some (.deferred none):=by
   rw[hw2];simp only[Array.getElem?_mapIdx,if_neg hb]
   cases w.heap[b]? with
   | none=>exact .inl rfl
   | some o=>exact .inr rfl
  unfold World.cell? at h5;rcases h6 with h6 | h6<;>simp[h6] at h5
theorem dS{b:Nat}{t:TypeId}(h:Nq w K z ao n c x)(hb:Blk w b [v] t)(hv:∀ y,v≠.int .u64 y):n=0\/z≠b:=by
 by_cases hn:n=0
 ·exact .inl hn
 ·refine .inr fun e => ?_
  subst e;obtain⟨o,y,h1⟩:=h.at hn;unfold World.cell? at h1;rw[hb.blk] at h1
  match o with
  | 0=>simp at h1; exact hv y h1
  | o + 1=>simp at h1
theorem Nq.rcd{C:Nat}{w':World}(h:Nq w K z ao n c x)(hr:Rec C w w'):Nq w' K z ao n c x:=by
 have hs:n≠0->w'.heap[z]? = w.heap[z]? := fun hn=>by
  obtain⟨o,y,h1⟩:=h.at hn;unfold World.cell? at h1;split at h1
  ·rename_i cs t f e
   have e':w.heap[z]? = some (.cells cs t f):=e;rw[e'];exact hr.same z _ e' (.inr rfl)
  ·cases h1
 exact⟨h.lt.imp_right fun h=>Nat.lt_of_lt_of_le h hr.size,h.out,fun w2 h2=>h.to w2 fun hn=>(h2 hn).trans (hs hn)⟩
theorem cX_rng(ho:Oct l):(0<=cX l 0/\cX l 0 < 18446744073709551616)/\(0<=cX l 1/\cX l 1 < 18446744073709551616):=by
 have h1:bC (rdL (cY 8 l) 0 l):=by
  unfold rdL;split
  ·split
   ·exact ho
   ·exact fun x hx=>ho x (List.mem_of_mem_drop hx)
  ·exact ho
 have e:Rc.kX l=Rc.rnx 0 1 (Rc.rnx 0 0 (0,l,fun _=>0)):=rfl;unfold cX Rc.gl;rw[e];split
 ·exact⟨uk (err:=0) ho,uk h1⟩
 ·exact⟨⟨Int.le_refl _,by decide⟩,Int.le_refl _,by decide⟩
def p8(E:aI)(id:Int)(s:Int × Int × Int)(c:Int × Int × Int):Int × Int × Int:=(s.1 + s.2.1 * jd (hX (got E (Ky.mk 7 id c.1)) 0) s.2.2 / U36,s.2.1 * (c.2.2 * U36) / (c.2.1 * U36),hX (got E (Ky.mk 7 id c.1)) 0)
structure ClI(B:Nat)(Wb:World)(br bk bf bc:Nat)(K:Nat->Prop)(g:Nat)(E:aI)(Wn:List aI)(N x i M:Nat)(st:Int × Int × Int)(V:World):Prop where
 chg:Chg (fun b=>b=g\/b=br\/b=bk\/b=bf\/b=bc) Wb V
 sx:Sx B V K g E Wn x N
 cnt:Blk V bc [.int .i64 (i:Int)] 3
 rew:∃ a n c z,Blk V br [.slice a n c] 32/\Nq V K z a n c st.1/\n<=2000000 * i
 stk:∃ a n c z,Blk V bk [.slice a n c] 32/\Nq V K z a n c st.2.1/\n<=M + 80 * i
 frm:∃ a n c z,Blk V bf [.slice a n c] 32/\Nq V K z a n c st.2.2/\n<=510
end
section
variable {B:Nat} {Wb V V':World} {br bk bf bc g N x i M:Nat} {K:Nat->Prop} {E:aI} {Wn:List aI} {st:Int × Int × Int}
theorem ClI.rcd (h:ClI B Wb br bk bf bc K g E Wn N x i M st V) (hr:Rec Wb.heap.size V V'):ClI B Wb br bk bf bc K g E Wn N x i M st V':=by
 obtain⟨a1,n1,c1,z1,p1,p2,p3⟩:=h.rew;obtain⟨a2,n2,c2,z2,q1,q2,q3⟩:=h.stk;obtain⟨a3,n3,c3,z3,r1,r2,r3⟩:=h.frm;exact⟨jW h.chg hr (Nat.le_refl _),⟨rP h.sx.sa hr,Nat.le_trans h.sx.lo hr.size,h.sx.kb⟩,eL h.cnt hr,⟨a1,n1,c1,z1,eL p1 hr,p2.rcd hr,p3⟩,⟨a2,n2,c2,z2,eL q1 hr,q2.rcd hr,q3⟩,a3,n3,c3,z3,eL r1 hr,r2.rcd hr,r3⟩
theorem ClI.tick (h:ClI B Wb br bk bf bc K g E Wn N x i M st V):ClI B Wb br bk bf bc K g E Wn N (x + 1) i M st (tick g V x):=by
 obtain⟨a1,n1,c1,z1,p1,p2,p3⟩:=h.rew;obtain⟨a2,n2,c2,z2,q1,q2,q3⟩:=h.stk;obtain⟨a3,n3,c3,z3,r1,r2,r3⟩:=h.frm;have hc:=dY g x V
 have hne:∀ {b:Nat} {cs:List Value} {t:TypeId},Blk V b cs t->t≠94->b≠g:=fun k ht e=>by
  obtain⟨cs',k'⟩:=h.sx.sa.kv;subst e;exact ht (k.eq k').2
 have hz:∀ {a:Option Addr} {n c z:Nat} {y:Int},Nq V K z a n c y->n=0\/z≠g:=fun q=>q.out.imp_right (fun k e=>k (e▸h.sx.sa.top))
 exact⟨h.chg.trans hc (fun b _ e=>.inl e),⟨h.sx.sa.tick,Nat.le_trans h.sx.lo hc.size,h.sx.kb⟩,h.cnt.chg hc (hne h.cnt (by decide)),⟨a1,n1,c1,z1,p1.chg hc (hne p1 (by decide)),p2.cell hc (hz p2),p3⟩,⟨a2,n2,c2,z2,q1.chg hc (hne q1 (by decide)),q2.cell hc (hz q2),q3⟩,a3,n3,c3,z3,r1.chg hc (hne r1 (by decide)),r2.cell hc (hz r2),r3⟩
theorem ClI.rd (h:ClI B Wb br bk bf bc K g E Wn N x i M st V):RdS Wb (fun b=>b=g\/b=br\/b=bk\/b=bf\/b=bc) K (B <= ·) g E Wn N V:=by
 obtain⟨a1,n1,c1,z1,p1,p2,p3⟩:=h.rew;obtain⟨a2,n2,c2,z2,q1,q2,q3⟩:=h.stk;obtain⟨a3,n3,c3,z3,r1,r2,r3⟩:=h.frm;refine⟨h.chg,fun b hb cs k => ?_,_,h.sx.sa⟩;rcases hb with rfl | rfl | rfl | rfl | rfl
 ·obtain⟨cs',k'⟩:=h.sx.sa.kv;exact absurd (k.eq k').2 (by decide)
 ·exact absurd (k.eq p1).2 (by decide)
 ·exact absurd (k.eq q1).2 (by decide)
 ·exact absurd (k.eq r1).2 (by decide)
 ·exact absurd (k.eq h.cnt).2 (by decide)
theorem ClI.go {a1 a2 a4:Option Addr} {k1 d1 y1 k2 d2 y2 k4 d4 z4:Nat} {V1 F2 V4:Int} {W2 w3 w4:World} (I2:ClI B Wb br bk bf bc K g E Wn N x i M st W2) (hX:∀ b,(b=g\/b=br\/b=bk\/b=bf\/b=bc)->b < Wb.heap.size) (drk:br≠bk) (dkf:bk≠bf) (nk:¬ K bk) (nc:¬ K bc)
  (S3:Sx B w3 K g E Wn (x + 1) N) (C3:Chg (fun b=>b=g\/b=br\/b=bf) W2 w3) (R3:Blk w3 br [.slice a1 k1 d1] 32) (N1:Nq w3 K y1 a1 k1 d1 V1) (m1:k1<=2000000 * (i + 1)) (F3:Blk w3 bf [.slice a2 k2 d2] 32) (N2:Nq w3 K y2 a2 k2 d2 F2) (m2:k2<=510)
  (M4:Nf w4 z4 a4 k4 d4 V4) (h4:k4=0\/w3.heap.size<=z4) (m4:k4<=M + 80 * (i + 1)) (B4:Below w3.heap.size w3 w4) :
  ((w4.cell? ⟨bk,0,none⟩).isSome=true/\w4.frozen? ⟨bk,0,none⟩=false/\(w4.setCell ⟨bk,0,none⟩ (.slice a4 k4 d4)).cell? ⟨bc,0,none⟩=some (.int .i64 (i:Int))/\(w4.setCell ⟨bk,0,none⟩ (.slice a4 k4 d4)).frozen? ⟨bc,0,none⟩=false) /\
  ClI B Wb br bk bf bc K g E Wn N (x + 1) (i + 1) M (V1,V4,F2) ((w4.setCell ⟨bk,0,none⟩ (.slice a4 k4 d4)).setCell ⟨bc,0,none⟩ (.int .i64 ((i:Int) + 1)))/\bE TpN Wb.heap.size W2 ((w4.setCell ⟨bk,0,none⟩ (.slice a4 k4 d4)).setCell ⟨bc,0,none⟩ (.int .i64 ((i:Int) + 1))):=by
 obtain⟨aS,nS,cS,zS,q1,q2,q3⟩:=I2.stk
 have hkg:bk≠g:=fun e=>by obtain⟨cs',k'⟩:=I2.sx.sa.kv; subst e; exact absurd (q1.eq k').2 (by decide)
 have hcg:bc≠g:=fun e=>by obtain⟨cs',k'⟩:=I2.sx.sa.kv; subst e; exact absurd (I2.cnt.eq k').2 (by decide)
 obtain⟨aR,nR,cR,zR,r1,_,_⟩:=I2.rew;obtain⟨aF,nF,cF,zF,f1,_,_⟩:=I2.frm
 have hcr:bc≠br:=fun e=>by subst e; exact absurd (I2.cnt.eq r1).2 (by decide)
 have hcf:bc≠bf:=fun e=>by subst e; exact absurd (I2.cnt.eq f1).2 (by decide)
 have hck:bc≠bk:=fun e=>by subst e; exact absurd (I2.cnt.eq q1).2 (by decide)
 have cnt4:=(I2.cnt.chg C3 (fun h=>h.elim hcg (fun h=>h.elim hcr hcf))).keep B4;have bk4:=(q1.chg C3 (fun h=>h.elim hkg (fun h=>h.elim drk.symm dkf))).keep B4
 have Ck:Chg (· = bk) w4 (w4.setCell ⟨bk,0,none⟩ (.slice a4 k4 d4)):=(Chg.refl (fun x=>x=bk) w4).cell (.inl (by rfl)) _;have bk5:=bk4.setCell (i:=0) (.slice a4 k4 d4);have cnt5:=cnt4.chg Ck hck;have x1:=bk4.cell (i:=0) rfl;have x2:=bk4.free 0;have x3:=cnt5.cell (i:=0) rfl;have x4:=cnt5.free 0;have P4:=bZ S3 M4 h4;have P1:=N1.keep B4;have P2:=N2.keep B4
 have P4':=P4.cell Ck (dS P4 bk4 (fun y h=>by cases h))
 have P1':=P1.cell Ck (dS P1 bk4 (fun y h=>by cases h))
 have P2':=P2.cell Ck (dS P2 bk4 (fun y h=>by cases h));have R5:=(R3.keep B4).chg Ck drk;have F5:=(F3.keep B4).chg Ck dkf.symm;have S5:=(S3.sa.keep B4).chg Ck (fun b e hb=>nk ((show b=bk from e)▸hb)) (fun b e cs kk=>by have e':b=bk:=e; subst e'; exact absurd (kk.eq bk4).2 (by decide));have G5:=(((I2.chg.trans C3 (fun b _ h=>h.elim .inl (fun h=>h.elim (fun h=>.inr (.inl h)) (fun h=>.inr (.inr (.inr (.inl h))))))).trans (Chg.of (F:=fun _=>False) B4) (fun _ _ h=>h.elim))).trans Ck (fun b _ h=>.inr (.inr (.inl h)));have H5:=((C3.trans (Chg.of (F:=fun b=>b=g\/b=br\/b=bf) B4) (fun _ _ h=>h)).mono (fun b _ h=>(h.elim .inl (fun h=>h.elim (fun h=>.inr (.inl h)) (fun h=>.inr (.inr (.inr (.inl h))))):b=g\/b=br\/b=bk\/b=bf\/b=bc))).trans Ck (fun b _ h=>.inr (.inr (.inl h)));have l5:=Nat.le_trans (Nat.le_trans S3.lo B4.size) Ck.size;obtain⟨w5,hw5⟩:∃ w5,w4.setCell ⟨bk,0,none⟩ (.slice a4 k4 d4)=w5:=⟨_,rfl⟩
 rw[hw5] at bk5 cnt5 x3 x4 P4' P1' P2' R5 F5 S5 G5 H5 l5 ⊢
 have Cc:Chg (· = bc) w5 (w5.setCell ⟨bc,0,none⟩ (.int .i64 ((i:Int) + 1))):=(Chg.refl (fun x=>x=bc) w5).cell (.inl (by rfl)) _;have cnt6:=cnt5.setCell (i:=0) (.int .i64 ((i:Int) + 1))
 have hv:∀ y,(.int .i64 (i:Int):Value)≠.int .u64 y:=fun y h=>by cases h
 refine⟨⟨by rw[x1]; rfl,x2,x3,x4⟩,⟨G5.trans Cc (fun b _ h=>.inr (.inr (.inr (.inr h)))),⟨S5.chg Cc (fun b e hb=>nc ((show b=bc from e)▸hb)) (fun b e cs kk=>by have e':b=bc:=e; subst e'; exact absurd (kk.eq cnt5).2 (by decide)),Nat.le_trans l5 Cc.size,S3.kb⟩,?_,⟨a1,k1,d1,y1,R5.chg Cc hcr.symm,P1'.cell Cc (dS P1' cnt5 hv),m1⟩,⟨a4,k4,d4,z4,bk5.chg Cc hck.symm,P4'.cell Cc (dS P4' cnt5 hv),m4⟩,a2,k2,d2,y2,F5.chg Cc hcf.symm,P2'.cell Cc (dS P2' cnt5 hv),m2⟩,?_⟩
 ·rw[show ((i + 1:Nat):Int)=(i:Int) + 1 by omega];exact cnt6
 ·have Hc:=H5.trans Cc (fun b _ h=>.inr (.inr (.inr (.inr h))));exact⟨Hc.size,fun k o hk h0 _=>(Hc.same k (lt_of_block h0) (fun h=>by have:=hX k h; omega)).trans h0⟩
end
section
variable {w:World}{K D:Nat->Prop}{E:aI}{W:List aI}{id fr la:Int}{i:Nat}
theorem vI{g n N:Nat}(h:SA w K D g E W n N){c:Int × Int × Int}(hc:(dt E id fr la)[i]? = some c):(0<=c.2.1/\c.2.1 < 18446744073709551616)/\(0<=c.2.2/\c.2.2 < 18446744073709551616):=by
 obtain⟨x,hx,rfl⟩:=List.mem_map.1 (List.mem_of_getElem? hc);exact cX_rng (SA.octv h x (List.mem_filter.1 hx).1)
def j5(E:aI)(id fr la x:Int)(i:Nat):Int × Int × Int:=((dt E id fr la).take i).foldl (p8 E id) (0,x,hX (got E (Ky.mk 7 id fr)) 0)
theorem wO{x:Int}{c:Int × Int × Int}(hc:(dt E id fr la)[i]? = some c):j5 E id fr la x (i + 1)=p8 E id (j5 E id fr la x i) c:=by
 unfold j5;rw[List.take_add_one,hc,List.foldl_append];rfl
end
end Fo
end Go.Proofs.YthfepflplbahkaaGreatDoor
