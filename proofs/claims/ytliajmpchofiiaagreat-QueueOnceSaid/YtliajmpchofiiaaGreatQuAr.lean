/- A script of the queue's laws as an argument. -/
import Derived.Test.YtliajmpchofiiaaGreatJaw
import Derived.Test.YtliajmpchofiiaaGreatPwK
import Derived.Test.YtliajmpchofiiaaGreatJai
import Derived.Deep.Slices
import Derived.ChangeSlices
import Derived.OpenShut
set_option maxRecDepth 100000
set_option maxHeartbeats 8000000
namespace Go.Proofs.YtliajmpchofiiaaGreat
namespace Qu
open Go.RowKit Lim Pg Kv Go.ChangeShapes Go.WideShapes
section
variable {W:World}{base fuel:Nat}{spare:Nat->Bool}{held:Bool}{c:Value}{cs:List Value}{a:Option Addr}
set_option linter.unusedVariables false
set_option linter.unusedSimpArgs false
theorem vN{α:Type}{l:List α}(h:l.length=1):∃ a0,l=[a0]:=by
 match l,h with
 | [a0],_=>exact⟨a0,rfl⟩
theorem list_5{α:Type}{l:List α}(h:l.length=5):∃ a0 a1 a2 a3 a4,l=[a0,a1,a2,a3,a4]:=by
 match l,h with
 | [a0,a1,a2,a3,a4],_=>exact⟨a0,a1,a2,a3,a4,rfl⟩
theorem list_6{α:Type}{l:List α}(h:l.length=6):∃ a0 a1 a2 a3 a4 a5,l=[a0,a1,a2,a3,a4,a5]:=by
 match l,h with
 | [a0,a1,a2,a3,a4,a5],_=>exact⟨a0,a1,a2,a3,a4,a5,rfl⟩
theorem list_7{α:Type}{l:List α}(h:l.length=7):∃ a0 a1 a2 a3 a4 a5 a6,l=[a0,a1,a2,a3,a4,a5,a6]:=by
 match l,h with
 | [a0,a1,a2,a3,a4,a5,a6],_=>exact⟨a0,a1,a2,a3,a4,a5,a6,rfl⟩
theorem yN{α:Type}{l:List α}(h:l.length=16):∃ a0 a1 a2 a3 a4 a5 a6 a7 a8 a9 a10 a11 a12 a13 a14 a15,l=[a0,a1,a2,a3,a4,a5,a6,a7,a8,a9,a10,a11,a12,a13,a14,a15]:=by
 match l,h with
 | [a0,a1,a2,a3,a4,a5,a6,a7,a8,a9,a10,a11,a12,a13,a14,a15],_=>exact⟨a0,a1,a2,a3,a4,a5,a6,a7,a8,a9,a10,a11,a12,a13,a14,a15,rfl⟩
theorem wT{H:Type}{enc:TypeId × Value->H}{x:DataW H × List MemPlace}(h:DataW.trod enc Tryz.prog W base spare held fuel 47 [c]=some x)(hs:∀ b,spare b=true):∃ a n d z V,c=.slice a n d/\Nk W (fun b=>W.heap.size<=b) z a n d V/\0<=V:=by
 rcases open_ints Tryz.underlying47 Tryz.underlying27 (by kernel_rfl) h with⟨hc1,_⟩ | ⟨x,l,c1,zs,hc1,_,hl,hm,hz,rfl,hcell,hwz⟩
 ·exact⟨none,0,0,0,0,List.cons.inj hc1 |>.1,q9 _ _,by decide⟩
 ·have hrow:xX W (some x) l c1 zs:=.inr ⟨_,rfl,hl,hm,by simpa[hs] using hz,hcell,hwz⟩;obtain⟨b,o,ls,h1,h2,_,h4,h5⟩:=hrow.open
  have hlt:l=0\/b < W.heap.size:=by
   rcases Nat.eq_zero_or_pos l with h | h
   ·exact .inl h
   ·exact .inr (aA (h5.cell 0 (by omega)))
  refine⟨some x,l,c1,b,val ls,List.cons.inj hc1 |>.1,⟨hlt,hlt.imp_right fun h=>by show ¬ (W.heap.size<=b); omega,fun w2 hw=>⟨b,o,ls,h1,h2,h4,⟨h5.loc,fun i hi => ?_⟩,rfl⟩⟩,cy h4⟩;rw[World.cell?_of_block (w:=W) (hw (by omega))];exact h5.cell i hi
theorem uj{H:Type}{enc:TypeId × Value->H}{A:Addr}{x:DataW H × List MemPlace}(hs:∀ b,spare b=true)(hc:W.cells? base A 16=some cs)(h:DataW.trod enc Tryz.prog W base spare held fuel 53 cs=some x):∃ s:Sq,A.spot=none/\(∀ j v,(scs s)[j]? = some v->W.cell? ⟨A.block,A.off + j,none⟩=some v)/\Sqr s/\Nk W (fun b=>W.heap.size<=b) s.z s.a s.l s.c s.x:=by
 obtain⟨_,hlen,hcell⟩:=World.cells?_some hc;obtain⟨xs,k,hk,rfl,_,hxl,hf⟩:=DataW.trod_struct Tryz.underlying53 h;obtain⟨y0,y1,y2,y3,y4,rfl⟩:=list_5 (show xs.length=5 from hxl);obtain⟨v0,v1,v2,v3,v4,v5,v6,v7,v8,v9,v10,v11,v12,v13,v14,v15,rfl⟩:=yN hlen
 have q3:Tryz.prog.cellsOf 3=1:=by kernel_rfl
 have q28:Tryz.prog.cellsOf 27=1:=by kernel_rfl
 have qU:Tryz.prog.cellsOf 46=6:=by kernel_rfl
 have qM:Tryz.prog.cellsOf 51=7:=by kernel_rfl
 have qD:Tryz.prog.cellsOf 49=1:=by kernel_rfl
 have qN:Tryz.prog.cellsOf 47=1:=by kernel_rfl
 have g0:=hf 0 _ rfl;have g1:=hf 1 _ rfl;have g2:=hf 2 _ rfl;have g3:=hf 3 _ rfl;have g4:=hf 4 _ rfl;simp[q3,q28,qU,qM] at g0 g1 g2 g3 g4;obtain⟨us,ku,hku,eu,_,hul,huf⟩:=DataW.trod_struct Tryz.underlying46 g3;obtain⟨w0,w1,w2,w3,w4,w5,rfl⟩:=list_6 (show us.length=6 from hul);obtain⟨ms,km,hkm,em,_,hml,hmf⟩:=DataW.trod_struct Tryz.underlying51 g4;obtain⟨p0,p1,p2,p3,p4,p5,p6,rfl⟩:=list_7 (show ms.length=7 from hml);have a0:=huf 0 _ rfl;have a1:=huf 1 _ rfl;have a2:=huf 2 _ rfl;have a3:=huf 3 _ rfl;have a4:=huf 4 _ rfl;have a5:=huf 5 _ rfl;have b0:=hmf 0 _ rfl;have b1:=hmf 1 _ rfl;have b2:=hmf 2 _ rfl;have b3:=hmf 3 _ rfl;have b4:=hmf 4 _ rfl;have b5:=hmf 5 _ rfl;have b6:=hmf 6 _ rfl;simp[q28,qD] at a0 a1 a2 a3 a4 a5 b0 b1 b2 b3 b4 b5 b6;obtain⟨ds,kd,hkd,ed,_,hdl,hdf⟩:=DataW.trod_struct Tryz.underlying49 b6;obtain⟨d0,rfl⟩:=vN (show ds.length=1 from hdl);have f0:=hdf 0 _ rfl;simp[qN] at f0;obtain⟨n0,e0,_,w0⟩:=DataW.trod_int Tryz.underlying3 g0;obtain⟨n1,e1,_,w1⟩:=DataW.trod_int Tryz.underlying3 g1;obtain⟨n2,e2,_,r2⟩:=DataW.trod_int Tryz.underlying27 g2;obtain⟨u0,eu0,_,ru0⟩:=DataW.trod_int Tryz.underlying27 a0;obtain⟨u1,eu1,_,ru1⟩:=DataW.trod_int Tryz.underlying27 a1;obtain⟨u2,eu2,_,ru2⟩:=DataW.trod_int Tryz.underlying27 a2;obtain⟨u3,eu3,_,ru3⟩:=DataW.trod_int Tryz.underlying27 a3;obtain⟨u4,eu4,_,ru4⟩:=DataW.trod_int Tryz.underlying27 a4;obtain⟨u5,eu5,_,ru5⟩:=DataW.trod_int Tryz.underlying27 a5;obtain⟨m0,em0,_,rm0⟩:=DataW.trod_int Tryz.underlying27 b0;obtain⟨m1,em1,_,rm1⟩:=DataW.trod_int Tryz.underlying27 b1;obtain⟨m2,em2,_,rm2⟩:=DataW.trod_int Tryz.underlying27 b2;obtain⟨m3,em3,_,rm3⟩:=DataW.trod_int Tryz.underlying27 b3;obtain⟨m4,em4,_,rm4⟩:=DataW.trod_int Tryz.underlying27 b4;obtain⟨m5,em5,_,rm5⟩:=DataW.trod_int Tryz.underlying27 b5;obtain⟨a6,l6,c6,z6,x6,e6,hN,hx⟩:=wT f0 hs;have c0:=hcell 0 (by decide);have c1:=hcell 1 (by decide);have c2:=hcell 2 (by decide);have c3:=hcell 3 (by decide);have c4:=hcell 4 (by decide);have c5:=hcell 5 (by decide);have c7:=hcell 7 (by decide);have c8:=hcell 8 (by decide);have c9:=hcell 9 (by decide);have c10:=hcell 10 (by decide);have c11:=hcell 11 (by decide);have c12:=hcell 12 (by decide);have c13:=hcell 13 (by decide);have c14:=hcell 14 (by decide);have c15:=hcell 15 (by decide);have c06:=hcell 6 (by decide)
 have hsp:A.spot=none:=by
  rw[show A.add 0=A from rfl] at c0;exact Pw.spot_n c0
 obtain⟨b,o,sp⟩:=A;obtain rfl:sp=none:=hsp;rw[cE] at c0 c1 c2 c3 c4 c5 c06 c7 c8 c9 c10 c11 c12 c13 c14 c15;simp at e0 e1 e2 eu0 eu1 eu2 eu3 eu4 eu5 em0 em1 em2 em3 em4 em5 c0 c1 c2 c3 c4 c5 c06 c7 c8 c9 c10 c11 c12 c13 c14 c15;subst e0 e1 e2 eu0 eu1 eu2 eu3 eu4 eu5 em0 em1 em2 em3 em4 em5 e6;refine⟨⟨n0,n1,n2,u0,u1,u2,u3,u4,u5,m0,m1,m2,m3,m4,m5,a6,l6,c6,z6,x6⟩,rfl,fun j v hj => ?_,⟨Pw.ic r2,Pw.ic ru0,Pw.ic ru1,Pw.ic ru2,Pw.ic ru3,Pw.ic ru4,Pw.ic ru5,Pw.ic rm0,Pw.ic rm1,Pw.ic rm2,Pw.ic rm3,Pw.ic rm4,Pw.ic rm5,hx⟩,hN⟩
 match j,hj with
 | 0,hj=>cases hj; exact c0
 | 1,hj=>cases hj; exact c1
 | 2,hj=>cases hj; exact c2
 | 3,hj=>cases hj; exact c3
 | 4,hj=>cases hj; exact c4
 | 5,hj=>cases hj; exact c5
 | 6,hj=>cases hj; exact c06
 | 7,hj=>cases hj; exact c7
 | 8,hj=>cases hj; exact c8
 | 9,hj=>cases hj; exact c9
 | 10,hj=>cases hj; exact c10
 | 11,hj=>cases hj; exact c11
 | 12,hj=>cases hj; exact c12
 | 13,hj=>cases hj; exact c13
 | 14,hj=>cases hj; exact c14
 | 15,hj=>cases hj; exact c15
 | j + 16,hj=>simp[scs] at hj
theorem lJ{H:Type}{enc:TypeId × Value->H}{len cap:Nat}{x:DataW H × List MemPlace}(hs:∀ b,spare b=true)(h:DataW.trod enc Tryz.prog W base spare held fuel 28 [.slice a len cap]=some x):∃ b o st,gL W a len b o st:=by
 have _i:Inhabited Sq:=⟨⟨0,0,0,0,0,0,0,0,0,0,0,0,0,0,0,none,0,0,0,0⟩⟩
 have q5:Tryz.prog.cellsOf 53=16:=by kernel_rfl
 rcases Go.Deep.open_slice Tryz.underlying28 h with⟨hcs,_⟩ | ⟨A,l,c,m,n,D,Pl,hcs,_,hl,hm,hmm,rfl,hx⟩
 ·simp at hcs;obtain⟨rfl,rfl,rfl⟩:=hcs;exact⟨0,0,fun _=>default,fun h=>absurd h (by decide),fun i h=>absurd h (by omega),fun i h=>absurd h (by omega),fun i h=>absurd h (by omega),by decide⟩
 ·simp at hcs;obtain⟨rfl,rfl,rfl⟩:=hcs
  have hmc:m=cap:=by rw[hmm,hs]; rfl
  have each0:∀ i,i < len->∃ s:Sq,(A.add (i * 16)).spot=none/\(∀ j v,(scs s)[j]? = some v->W.cell? ⟨(A.add (i * 16)).block,(A.add (i * 16)).off + j,none⟩=some v)/\Sqr s/\Nk W (fun b=>W.heap.size<=b) s.z s.a s.l s.c s.x:=fun i hi=>by
   obtain⟨cs',h1,h2⟩:=hx i (by omega);rw[q5] at h1;exact uj hs h1 h2
  have hsp:0 < len->A.spot=none:=fun h0=>by
   obtain⟨s,k1,_⟩:=each0 0 h0;exact k1
  have each:∀ i,i < len->∃ s:Sq,A=⟨A.block,A.off,none⟩/\(∀ j v,(scs s)[j]? = some v->W.cell? ⟨A.block,A.off + i * 16 + j,none⟩=some v)/\Sqr s/\Nk W (fun b=>W.heap.size<=b) s.z s.a s.l s.c s.x:=fun i hi=>by
   obtain⟨s,k1,k2,k3⟩:=each0 i hi;have e:=hsp (by omega);obtain⟨b,o,sp⟩:=A;obtain rfl:sp=none:=e;rw[cE] at k2;exact⟨s,rfl,k2,k3⟩
  obtain⟨f,hf⟩:=Go.Deep.choose_lt each;exact⟨A.block,A.off,f,fun h0=>congrArg some (hf 0 h0).1,fun i hi=>(hf i hi).2.1,fun i hi=>(hf i hi).2.2.1,fun i hi=>(hf i hi).2.2.2,by unfold maxLen at hm; omega⟩
end
end Qu
end Go.Proofs.YtliajmpchofiiaaGreat
