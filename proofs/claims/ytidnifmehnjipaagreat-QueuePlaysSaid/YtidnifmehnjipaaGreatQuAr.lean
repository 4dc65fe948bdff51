/- A script of the queue's laws as an argument. -/
import Derived.Test.YtidnifmehnjipaaGreatJaA
import Derived.Test.YtidnifmehnjipaaGreatPwK
set_option maxRecDepth 100000
set_option maxHeartbeats 8000000
namespace Go.Proofs.YtidnifmehnjipaaGreat
namespace Qu
open Go.RowKit Lim Pg Kv Go.ChangeShapes Go.WideShapes
set_option linter.unusedVariables false
set_option linter.unusedSimpArgs false
section
variable {W:World}{base fuel:Nat}{spare:Nat->Bool}{held:Bool}{c:Value}{cs:List Value}{a:Option Addr}
theorem list_1{α:Type}{l:List α}(h:l.length=1):∃ a0,l=[a0]:=by
 match l,h with
 | [a0],_=>exact⟨a0,rfl⟩
theorem list_5{α:Type}{l:List α}(h:l.length=5):∃ a0 a1 a2 a3 a4,l=[a0,a1,a2,a3,a4]:=by
 match l,h with
 | [a0,a1,a2,a3,a4],_=>exact⟨a0,a1,a2,a3,a4,rfl⟩
theorem list_6{α:Type}{l:List α}(h:l.length=6):∃ a0 a1 a2 a3 a4 a5,l=[a0,a1,a2,a3,a4,a5]:=by
 match l,h with
 | [a0,a1,a2,a3,a4,a5],_=>exact⟨a0,a1,a2,a3,a4,a5,rfl⟩
theorem list_7{α:Type}{l:List α}(h:l.length=7):∃ a0 a1 a2 a3 a4 a5 a6,l=[a0,a1,a2,a3,a4,a5,a6]:=by
 match l,h with
 | [a0,a1,a2,a3,a4,a5,a6],_=>exact⟨a0,a1,a2,a3,a4,a5,a6,rfl⟩
theorem Dk{α:Type}{l:List α}(h:l.length=16):∃ a0 a1 a2 a3 a4 a5 a6 a7 a8 a9 a10 a11 a12 a13 a14 a15,l=[a0,a1,a2,a3,a4,a5,a6,a7,a8,a9,a10,a11,a12,a13,a14,a15]:=by
 match l,h with
 | [a0,a1,a2,a3,a4,a5,a6,a7,a8,a9,a10,a11,a12,a13,a14,a15],_=>exact⟨a0,a1,a2,a3,a4,a5,a6,a7,a8,a9,a10,a11,a12,a13,a14,a15,rfl⟩
theorem row_nk{H:Type}{enc:TypeId × Value->H}{x:DataW H × List MemPlace}(h:DataW.trod enc Tryz.prog W base spare held fuel 44 [c]=some x)(p:∀ b,spare b=true):∃ a n d z V,c=.slice a n d/\Nk W (fun b=>W.heap.size<=b) z a n d V/\0<=V:=by
 rcases open_ints Tryz.underlying44 Tryz.underlying22 (by kernel_rfl) h with⟨hc1,_⟩ | ⟨x,l,c1,zs,hc1,_,hl,hm,hz,rfl,hcell,hwz⟩
 ·exact⟨none,0,0,0,0,List.cons.inj hc1 |>.1,tK _ _,by decide⟩
 ·have f:BG W (some x) l c1 zs:=.inr ⟨_,rfl,hl,hm,by simpa[p] using hz,hcell,hwz⟩;obtain⟨b,o,ls,m,k,_,j,g⟩:=f.open
  have e:l=0\/b < W.heap.size:=by
   rcases Nat.eq_zero_or_pos l with h | h
   ·exact .inl h
   ·exact .inr (aH (g.cell 0 (by omega)))
  refine⟨some x,l,c1,b,val ls,List.cons.inj hc1 |>.1,⟨e,e.imp_right fun h=>by show ¬ (W.heap.size<=b);omega,fun q hw=>⟨b,o,ls,m,k,j,⟨g.loc,fun i hi=>?_⟩,rfl⟩⟩,cJ j⟩;rw[World.cell?_of_block (w:=W) (hw (by omega))];exact g.cell i hi
theorem xY{H:Type}{enc:TypeId × Value->H}{A:Addr}{x:DataW H × List MemPlace}(hs:∀ b,spare b=true)(hc:W.cells? base A 16=some cs)(h:DataW.trod enc Tryz.prog W base spare held fuel 50 cs=some x):∃ s:Sq,A.spot=none/\(∀ j v,(scs s)[j]?=some v->W.cell? ⟨A.block,A.off+j,none⟩=some v)/\Sqr s/\Nk W (fun b=>W.heap.size<=b) s.z s.a s.l s.c s.x:=by
 obtain⟨_,hlen,d⟩:=World.cells?_some hc;obtain⟨xs,k,hk,rfl,_,P,hf⟩:=DataW.trod_struct Tryz.underlying50 h;obtain⟨y0,y1,y2,y3,y4,rfl⟩:=list_5 (show xs.length=5 from P);obtain⟨v0,v1,v2,v3,v4,v5,v6,v7,v8,v9,v10,v11,v12,v13,v14,v15,rfl⟩:=Dk hlen
 have q3:Tryz.prog.cellsOf 3=1:=by kernel_rfl
 have w:Tryz.prog.cellsOf 22=1:=by kernel_rfl
 have qU:Tryz.prog.cellsOf 42=6:=by kernel_rfl
 have qM:Tryz.prog.cellsOf 48=7:=by kernel_rfl
 have qD:Tryz.prog.cellsOf 46=1:=by kernel_rfl
 have qN:Tryz.prog.cellsOf 44=1:=by kernel_rfl
 have g0:=hf 0 _ rfl;have g1:=hf 1 _ rfl;have g2:=hf 2 _ rfl;have g3:=hf 3 _ rfl;have g4:=hf 4 _ rfl;simp[q3,w,qU,qM] at g0 g1 g2 g3 g4;obtain⟨us,ku,hku,eu,_,hul,g⟩:=DataW.trod_struct Tryz.underlying42 g3;obtain⟨w0,w1,w2,w3,w4,w5,rfl⟩:=list_6 (show us.length=6 from hul);obtain⟨ms,km,hkm,em,_,U,f⟩:=DataW.trod_struct Tryz.underlying48 g4;obtain⟨p0,p1,p2,p3,p4,p5,p6,rfl⟩:=list_7 (show ms.length=7 from U);have a0:=g 0 _ rfl;have a1:=g 1 _ rfl;have a2:=g 2 _ rfl;have a3:=g 3 _ rfl;have a4:=g 4 _ rfl;have a5:=g 5 _ rfl;have b0:=f 0 _ rfl;have b1:=f 1 _ rfl;have b2:=f 2 _ rfl;have b3:=f 3 _ rfl;have b4:=f 4 _ rfl;have b5:=f 5 _ rfl;have b6:=f 6 _ rfl;simp[w,qD] at a0 a1 a2 a3 a4 a5 b0 b1 b2 b3 b4 b5 b6;obtain⟨ds,kd,hkd,ed,_,V,S⟩:=DataW.trod_struct Tryz.underlying46 b6;obtain⟨d0,rfl⟩:=list_1 (show ds.length=1 from V);have f0:=S 0 _ rfl;simp[qN] at f0;obtain⟨n0,e0,_,w0⟩:=DataW.trod_int Tryz.underlying3 g0;obtain⟨n1,e1,_,w1⟩:=DataW.trod_int Tryz.underlying3 g1;obtain⟨n2,e2,_,r2⟩:=DataW.trod_int Tryz.underlying22 g2;obtain⟨u0,D,_,X⟩:=DataW.trod_int Tryz.underlying22 a0;obtain⟨u1,C,_,aa⟩:=DataW.trod_int Tryz.underlying22 a1;obtain⟨u2,E,_,Z⟩:=DataW.trod_int Tryz.underlying22 a2;obtain⟨u3,L,_,M⟩:=DataW.trod_int Tryz.underlying22 a3;obtain⟨u4,B,_,O⟩:=DataW.trod_int Tryz.underlying22 a4;obtain⟨u5,I,_,ru5⟩:=DataW.trod_int Tryz.underlying22 a5;obtain⟨m0,G,_,Q⟩:=DataW.trod_int Tryz.underlying22 b0;obtain⟨m1,K,_,Y⟩:=DataW.trod_int Tryz.underlying22 b1;obtain⟨m2,F,_,ab⟩:=DataW.trod_int Tryz.underlying22 b2;obtain⟨m3,y,_,rm3⟩:=DataW.trod_int Tryz.underlying22 b3;obtain⟨m4,J,_,rm4⟩:=DataW.trod_int Tryz.underlying22 b4;obtain⟨m5,u,_,rm5⟩:=DataW.trod_int Tryz.underlying22 b5;obtain⟨a6,l6,c6,z6,x6,e6,hN,hx⟩:=row_nk f0 hs;have c0:=d 0 (by decide);have c1:=d 1 (by decide);have c2:=d 2 (by decide);have T:=d 3 (by decide);have c4:=d 4 (by decide);have c5:=d 5 (by decide);have c7:=d 7 (by decide);have R:=d 8 (by decide);have N:=d 9 (by decide);have m:=d 10 (by decide);have q:=d 11 (by decide);have n:=d 12 (by decide);have t:=d 13 (by decide);have i:=d 14 (by decide);have r:=d 15 (by decide);have p:=d 6 (by decide)
 have ac:A.spot=none:=by
  rw[show A.add 0=A from rfl] at c0;exact Pw.spot_n c0
 obtain⟨b,o,sp⟩:=A;obtain rfl:sp=none:=ac;rw[cU] at c0 c1 c2 T c4 c5 p c7 R N m q n t i r;simp at e0 e1 e2 D C E L B I G K F y J u c0 c1 c2 T c4 c5 p c7 R N m q n t i r;subst e0 e1 e2 D C E L B I G K F y J u e6;refine⟨⟨n0,n1,n2,u0,u1,u2,u3,u4,u5,m0,m1,m2,m3,m4,m5,a6,l6,c6,z6,x6⟩,rfl,fun j v e=>?_,⟨Pw.jF r2,Pw.jF X,Pw.jF aa,Pw.jF Z,Pw.jF M,Pw.jF O,Pw.jF ru5,Pw.jF Q,Pw.jF Y,Pw.jF ab,Pw.jF rm3,Pw.jF rm4,Pw.jF rm5,hx⟩,hN⟩
 match j,e with
 | 0,e=>cases e;exact c0
 | 1,e=>cases e;exact c1
 | 2,e=>cases e;exact c2
 | 3,e=>cases e;exact T
 | 4,e=>cases e;exact c4
 | 5,e=>cases e;exact c5
 | 6,e=>cases e;exact p
 | 7,e=>cases e;exact c7
 | 8,e=>cases e;exact R
 | 9,e=>cases e;exact N
 | 10,e=>cases e;exact m
 | 11,e=>cases e;exact q
 | 12,e=>cases e;exact n
 | 13,e=>cases e;exact t
 | 14,e=>cases e;exact i
 | 15,e=>cases e;exact r
 | j+16,e=>simp[scs] at e
theorem tZ{H:Type}{enc:TypeId × Value->H}{len cap:Nat}{x:DataW H × List MemPlace}(t:∀ b,spare b=true)(h:DataW.trod enc Tryz.prog W base spare held fuel 23 [.slice a len cap]=some x):∃ b o st,mJ W a len b o st:=by
 have _i:Inhabited Sq:=⟨⟨0,0,0,0,0,0,0,0,0,0,0,0,0,0,0,none,0,0,0,0⟩⟩
 have y:Tryz.prog.cellsOf 50=16:=by kernel_rfl
 rcases Go.Deep.open_slice Tryz.underlying23 h with⟨hcs,_⟩ | ⟨A,l,c,m,n,D,Pl,hcs,_,hl,hm,hmm,rfl,hx⟩
 ·simp at hcs;obtain⟨rfl,rfl,rfl⟩:=hcs;exact⟨0,0,fun _=>default,fun h=>absurd h (by decide),fun i h=>absurd h (by omega),fun i h=>absurd h (by omega),fun i h=>absurd h (by omega),by decide⟩
 ·simp at hcs;obtain⟨rfl,rfl,rfl⟩:=hcs
  have B:m=cap:=by rw[hmm,t];rfl
  have d:∀ i,i < len->∃ s:Sq,(A.add (i * 16)).spot=none/\(∀ j v,(scs s)[j]? = some v->W.cell? ⟨(A.add (i * 16)).block,(A.add (i * 16)).off + j,none⟩=some v)/\Sqr s/\Nk W (fun b=>W.heap.size<=b) s.z s.a s.l s.c s.x:=fun i hi=>by
   obtain⟨C,r,u⟩:=hx i (by omega);rw[y] at r;exact xY t r u
  have g:0 < len->A.spot=none:=fun k=>by
   obtain⟨s,q,_⟩:=d 0 k;exact q
  have each:∀ i,i < len->∃ s:Sq,A=⟨A.block,A.off,none⟩/\(∀ j v,(scs s)[j]? = some v->W.cell? ⟨A.block,A.off + i * 16 + j,none⟩=some v)/\Sqr s/\Nk W (fun b=>W.heap.size<=b) s.z s.a s.l s.c s.x:=fun i hi=>by
   obtain⟨s,q,p,w⟩:=d i hi;have e:=g (by omega);obtain⟨b,o,sp⟩:=A;obtain rfl:sp=none:=e;rw[cU] at p;exact⟨s,rfl,p,w⟩
  obtain⟨f,hf⟩:=Go.Deep.choose_lt each;exact⟨A.block,A.off,f,fun k=>congrArg some (hf 0 k).1,fun i hi=>(hf i hi).2.1,fun i hi=>(hf i hi).2.2.1,fun i hi=>(hf i hi).2.2.2,by unfold maxLen at hm;omega⟩
end
end Qu
end Go.Proofs.YtidnifmehnjipaaGreat
