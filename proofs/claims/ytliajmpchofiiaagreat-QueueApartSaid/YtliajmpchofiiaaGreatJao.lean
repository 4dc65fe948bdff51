/- Several texts, joined: QuE, QuF, QuG, BkC, BkD, PwR, PwB, PwC. -/
import Derived.Test.YtliajmpchofiiaaGreatJan
import Derived.Test.YtliajmpchofiiaaGreatJam
set_option maxRecDepth 100000
set_option maxHeartbeats 8000000
namespace Go.Proofs.YtliajmpchofiiaaGreat
section
namespace Qu
open Go.RowKit Go.Lib Pg Lim Gl Kv Bk Pw
section
variable {w:World}{x0 x1 x2 x3 x4 x5 x6 id:Int}{a6:Option Addr}{n6 c6 B g n N:Nat}{v:Value}{l:List Int}{K:Nat->Prop}{E:ay}{W:List ay}
attribute [local go_sem] Oper.semAt_some
set_option linter.unusedVariables false
set_option linter.unusedSimpArgs false
def mv(x0 x1 x2 x3 x4 x5 x6:Int):List Int:=Rc.thr (Rc.pnx (fun o=>([x0,x1,x2,x3,x4,x5,x6]:List Int).getD o 0)) [(0,0),(0,1),(0,2),(0,3),(0,4),(0,5),(2,6)] []
theorem vj(x0 x1 x2 x3 x4 x5 x6:Int):(mv x0 x1 x2 x3 x4 x5 x6).length<=2100:=by have:=Rc.eR (fun o=>([x0,x1,x2,x3,x4,x5,x6]:List Int).getD o 0) [(0,0),(0,1),(0,2),(0,3),(0,4),(0,5),(2,6)] []; simpa[mv] using this
theorem mv_oct(x0 x1 x2 x3 x4 x5 x6:Int):Oct (mv x0 x1 x2 x3 x4 x5 x6):=Rc.j9 _ _ _ (fun _ h=>by simp at h)
theorem yk(h6:fg w a6 n6 c6 x6)(m6:n6<=1000000):Calls Tryz.prog 124 #[.agg #[.int .u64 x0,.int .u64 x1,.int .u64 x2,.int .u64 x3,.int .u64 x4,.int .u64 x5,.slice a6 n6 c6]] w fun e w'=>∃ v,e=.returned v/\ByU w' v (mv x0 x1 x2 x3 x4 x5 x6)/\Below w.heap.size w w':=by
 refine(Rc.o7 h6 m6).mono ?_
 rintro e w' ⟨b,n,rfl,hn,X,hb,B⟩;exact⟨_,rfl,j4 X (mv_oct _ _ _ _ _ _ _) hn (Nat.le_trans (vj _ _ _ _ _ _ _) (by decide)),B⟩
def mX(l:List Int)(i:Nat):Int:=Rc.bE (Rc.dm l) i
theorem zB(h:ByU w v l)(hl:l.length<=1000000000):Calls Tryz.prog 125 #[v] w fun e w'=>∃ a6 n6 c6,e=.returned (.tuple #[.agg #[.int .u64 (mX l 0),.int .u64 (mX l 1),.int .u64 (mX l 2),.int .u64 (mX l 3),.int .u64 (mX l 4),.int .u64 (mX l 5),.slice a6 n6 c6],.int .i64 (Rc.dG (Rc.dm l))])/\(Rc.dx w' w.heap.size a6 n6 c6 (mX l 6)/\n6<=510)/\Below w.heap.size w w':=by
 obtain⟨b,ao,c,rfl,h2⟩:=bya h.byt;exact Rc.oMove h2 hl
theorem layM{z6:Nat}(h:Sx B w K g E W n N)(hid:0<=id/\id < 18446744073709551616)(Q6:Nk w K z6 a6 n6 c6 x6)(m6:n6<=1000000)(hn:n + 30<=4000000000000000000)(hN:N + 30<=100000000):Calls Tryz.prog 123 #[pg g,.agg #[.int .i64 13,.func (.func 124) #[] #[],.func (.func 125) #[] #[],.func (.func 126) #[] #[]],.int .u64 id,.agg #[.int .u64 x0,.int .u64 x1,.int .u64 x2,.int .u64 x3,.int .u64 x4,.int .u64 x5,.slice a6 n6 c6]] w (SxE B w K g (put E (Ky.mk 13 id 0) (mv x0 x1 x2 x3 x4 x5 x6)) W (n + 1) (N + 2) (.tuple #[])):=by
 have A:=h.at
 refine aG (n:=18) Tryz.func123 rfl (by kernel_rfl) (by kernel_rfl) ?_
 have l0:=Q6.lt;refine af (ah (ta 5 [.int .i64 13,.func (.func 124) #[] #[],.func (.func 125) #[] #[],.func (.func 126) #[] #[]] 128 (pg) ?_));intro v1 g2 Xg2 hg2 B;have zg2:=Nat.le_trans A.size hg2;have nXg2:=A.new hg2;replace Q6:=Q6.keep B;replace A:=A.keep B;clear B;refine ta 7 [.int .u64 x0,.int .u64 x1,.int .u64 x2,.int .u64 x3,.int .u64 x4,.int .u64 x5,.slice a6 n6 c6] 51 (pg) ?_
 intro v3 g4 Xg4 hg4 B;have zg4:=Nat.le_trans A.size hg4;have nXg4:=A.new hg4;replace Q6:=Q6.keep B;replace A:=A.keep B;replace Xg2:=Xg2.keep B;clear B;refine ag (ab ?_);replace Q6:=Q6.drew;replace A:=A.drew;replace Xg2:=Xg2.drew;replace Xg4:=Xg4.drew;refine bW (fun w'=>Blk w' g2 [.int .i64 13,.func (.func 124) #[] #[],.func (.func 125) #[] #[],.func (.func 126) #[] #[]] 128/\Blk w' g4 [.int .u64 x0,.int .u64 x1,.int .u64 x2,.int .u64 x3,.int .u64 x4,.int .u64 x5,.slice a6 n6 c6] 51) (fun _=>false) ⟨Xg2,Xg4⟩ ?_
 refine z 0 8 (pg g) ?_
 refine z 1 9 (pg g2) ?_
 refine zl 2 10 (.int .i64 13) (fun _ h=>h.1) 0 ?_
 refine z 3 11 (.int .u64 id) ?_
 refine z 5 13 (pq g2 1) ?_
 refine zl 6 14 (.func (.func 124) #[] #[]) (fun _ h=>h.1) 1 ?_
 refine zlr 7 15 [.int .u64 x0,.int .u64 x1,.int .u64 x2,.int .u64 x3,.int .u64 x4,.int .u64 x5,.slice a6 n6 c6] (fun _ h=>h.2) 0 ?_
 refine zc 4 12 88 #[.int .i64 13,.int .u64 id,.int .u64 0] (lW hid (pY id)) ?_
 rintro _ v7 ⟨kv6,rfl,U5,B⟩;replace Q6:=Q6.keep B;replace A:=A.keep B;replace Xg2:=Xg2.keep B;replace Xg4:=Xg4.keep B;clear B;refine⟨_,rfl,⟨Xg2,Xg4⟩,?_⟩;refine zc 8 16 124 #[.agg #[.int .u64 x0,.int .u64 x1,.int .u64 x2,.int .u64 x3,.int .u64 x4,.int .u64 x5,.slice a6 n6 c6]] (yk Q6.nat m6) ?_
 rintro _ v10 ⟨pv9,rfl,U8,B⟩;replace Q6:=Q6.keep B;replace A:=A.keep B;replace Xg2:=Xg2.keep B;replace Xg4:=Xg4.keep B;replace U5:=bh U5 B;clear B;refine⟨_,rfl,⟨Xg2,Xg4⟩,?_⟩;refine zc 9 17 50 #[pg g,kv6,pv9] (oN A.sx U5 (pY id) U8 (Nat.le_trans (vj _ _ _ _ _ _ _) (by decide)) (by omega) (by omega)) ?_
 rintro _ v12 ⟨rfl,K11,S,hK,hC⟩;replace Q6:=Q6.op hK hC;replace nXg2:=opX Xg2 nXg2 hK hC;replace Xg2:=nXg2.1;replace nXg2:=nXg2.2;replace nXg4:=opX Xg4 nXg4 hK hC;replace Xg4:=nXg4.1;replace nXg4:=nXg4.2;replace U5:=A.byu U5 hC;replace U8:=A.byu U8 hC;replace A:=A.op S hK hC;clear S hK hC;clear U5;clear U8;refine⟨_,rfl,⟨Xg2,Xg4⟩,?_⟩;refine bg (kz (.tuple #[]) (rs0 (by kernel_rfl)) ?_);exact⟨rfl,_,A.sx,A.km,A.cc⟩
structure tY(B:Nat)(w:World)(K:Nat->Prop)(g:Nat)(E:ay)(W:List ay)(n N:Nat)(L:List Int)(b:Bool)(e:Ending)(w':World):Prop where
 ex:∃ a6 n6 c6,e=.returned (.tuple #[.agg #[.int .u64 (mX L 0),.int .u64 (mX L 1),.int .u64 (mX L 2),.int .u64 (mX L 3),.int .u64 (mX L 4),.int .u64 (mX L 5),.slice a6 n6 c6],.bool b])/\∃ z6 K',Sx B w' K' g E W n N/\(∀ b,K' b->K b\/w.heap.size<=b)/\Chg K w w'/\Nq w' K' z6 a6 n6 c6 (mX L 6)/\n6<=510/\(n6=0\/w.heap.size<=z6)
theorem Bj(h:Sx B w K g E W n N)(hid:0<=id/\id < 18446744073709551616)(hn:n + 30<=4000000000000000000)(hN:N + 30<=100000000):Calls Tryz.prog 92 #[pg g,.agg #[.int .i64 13,.func (.func 124) #[] #[],.func (.func 125) #[] #[],.func (.func 126) #[] #[]],.int .u64 id] w (tY B w K g E W (n + 1) N (got E (Ky.mk 13 id 0)) (Kv.look E (Ky.mk 13 id 0)).isSome):=by
 have A:=h.at
 refine aG (n:=30) Tryz.func92 rfl (by kernel_rfl) (by kernel_rfl) ?_
 refine af (ah (ta 4 [.int .i64 13,.func (.func 124) #[] #[],.func (.func 125) #[] #[],.func (.func 126) #[] #[]] 128 (pg) ?_));intro v1 g2 Xg2 hg2 B;have zg2:=Nat.le_trans A.size hg2;have nXg2:=A.new hg2;replace A:=A.keep B;clear B;have lXg2:=Xg2.lt;refine ta 6 [.int .u64 0,.int .u64 0,.int .u64 0,.int .u64 0,.int .u64 0,.int .u64 0,.slice none 0 0] 51 (pg) ?_
 intro v3 g4 Xg4 hg4 B;have zg4:=Nat.le_trans A.size hg4;have nXg4:=A.new hg4;replace A:=A.keep B;replace Xg2:=Xg2.keep B;clear B;refine t 7 (.bool false) ?_
 refine ag (ab (af (ah (t 13 (pg g) ?_))));refine t 14 (pg g2) ?_
 refine tl 15 (.int .i64 13) Xg2 0 ?_
 refine t 16 (.int .u64 id) ?_
 refine tc 17 88 #[.int .i64 13,.int .u64 id,.int .u64 0] (lW hid (pY id)) ?_
 rintro _ v7 ⟨kv6,rfl,U5,B⟩;refine⟨_,rfl,?_⟩;replace A:=A.keep B;replace Xg2:=Xg2.keep B;replace Xg4:=Xg4.keep B;clear B;refine tc 18 87 #[pg g,kv6] (As A.sx U5 (by omega) (by omega)) ?_
 rintro _ v10 ⟨gv8,rfl,U9,S,hC⟩;refine⟨_,rfl,?_⟩;replace Xg2:=Xg2.chg hC nXg2;replace Xg4:=Xg4.chg hC nXg4;replace U5:=A.byu U5 hC;replace A:=A.op S (fun _ h=>.inl h) hC;clear S hC;refine t 12 (.tuple #[gv8,.bool (Kv.look E (Ky.mk 13 id 0)).isSome]) ?_
 refine t 19 (gv8) ?_
 refine t 20 (.bool (Kv.look E (Ky.mk 13 id 0)).isSome) ?_
 refine t 8 (gv8) ?_
 refine t 9 (.bool (Kv.look E (Ky.mk 13 id 0)).isSome) ?_
 refine ag (ab (aE [(4,pg g2),(6,pg g4),(7,.bool false),(8,gv8),(9,.bool (Kv.look E (Ky.mk 13 id 0)).isSome)] (by kernel_rfl) ?_));refine af (ah (t 22 (pq g2 2) ?_));refine tl 23 (.func (.func 125) #[] #[]) Xg2 2 ?_
 refine t 24 (gv8) ?_
 refine tc 25 125 #[gv8] (zB U9 (Sx.nW A.sx _)) ?_
 rintro _ v12 ⟨ar11,nr11,cr11,rfl,⟨NW,mr11⟩,B⟩;refine⟨_,rfl,?_⟩;have kXg2r11:=Xg2.lt;have kXg4r11:=Xg4.lt;have sr11:=A.size;obtain⟨zr11,hzr11,Qr11⟩:=An NW (fun b hb=>A.lt hb);clear NW;replace A:=A.keep B;replace Xg2:=Xg2.keep B;replace Xg4:=Xg4.keep B;replace U5:=bh U5 B;replace U9:=bh U9 B;clear B;clear U9;refine t 21 (.tuple #[.agg #[.int .u64 (mX (got E (Ky.mk 13 id 0)) 0),.int .u64 (mX (got E (Ky.mk 13 id 0)) 1),.int .u64 (mX (got E (Ky.mk 13 id 0)) 2),.int .u64 (mX (got E (Ky.mk 13 id 0)) 3),.int .u64 (mX (got E (Ky.mk 13 id 0)) 4),.int .u64 (mX (got E (Ky.mk 13 id 0)) 5),.slice ar11 nr11 cr11],.int .i64 (Rc.dG (Rc.dm (got E (Ky.mk 13 id 0))))]) ?_
 refine t 26 (.agg #[.int .u64 (mX (got E (Ky.mk 13 id 0)) 0),.int .u64 (mX (got E (Ky.mk 13 id 0)) 1),.int .u64 (mX (got E (Ky.mk 13 id 0)) 2),.int .u64 (mX (got E (Ky.mk 13 id 0)) 3),.int .u64 (mX (got E (Ky.mk 13 id 0)) 4),.int .u64 (mX (got E (Ky.mk 13 id 0)) 5),.slice ar11 nr11 cr11]) ?_
 refine t 27 (.int .i64 (Rc.dG (Rc.dm (got E (Ky.mk 13 id 0))))) ?_
 have lXg2:=Xg2.lt;have lXg4:=Xg4.lt;have lQr11:=Qr11.lt;refine ta 10 [.int .u64 0,.int .u64 0,.int .u64 0,.int .u64 0,.int .u64 0,.int .u64 0,.slice none 0 0] 51 (pg) ?_
 intro v13 g14 Xg14 hg14 B;have zg14:=Nat.le_trans A.size hg14;have nXg14:=A.new hg14;replace A:=A.keep B;replace Xg2:=Xg2.keep B;replace Xg4:=Xg4.keep B;replace U5:=bh U5 B;replace Qr11:=Qr11.keep B;clear B;refine ts Xg14 0 (.agg #[.int .u64 (mX (got E (Ky.mk 13 id 0)) 0),.int .u64 (mX (got E (Ky.mk 13 id 0)) 1),.int .u64 (mX (got E (Ky.mk 13 id 0)) 2),.int .u64 (mX (got E (Ky.mk 13 id 0)) 3),.int .u64 (mX (got E (Ky.mk 13 id 0)) 4),.int .u64 (mX (got E (Ky.mk 13 id 0)) 5),.slice ar11 nr11 cr11]) [.int .u64 (mX (got E (Ky.mk 13 id 0)) 0),.int .u64 (mX (got E (Ky.mk 13 id 0)) 1),.int .u64 (mX (got E (Ky.mk 13 id 0)) 2),.int .u64 (mX (got E (Ky.mk 13 id 0)) 3),.int .u64 (mX (got E (Ky.mk 13 id 0)) 4),.int .u64 (mX (got E (Ky.mk 13 id 0)) 5),.slice ar11 nr11 cr11] [.int .u64 (mX (got E (Ky.mk 13 id 0)) 0),.int .u64 (mX (got E (Ky.mk 13 id 0)) 1),.int .u64 (mX (got E (Ky.mk 13 id 0)) 2),.int .u64 (mX (got E (Ky.mk 13 id 0)) 3),.int .u64 (mX (got E (Ky.mk 13 id 0)) 4),.int .u64 (mX (got E (Ky.mk 13 id 0)) 5),.slice ar11 nr11 cr11] ?_
 intro v15 Y C;replace A:=Bk.At.cell A Xg14 C zg14 nXg14 (by decide);replace Xg2:=Xg2.chg C (show g2≠g14 by omega);replace Xg4:=Xg4.chg C (show g4≠g14 by omega);replace U5:=dW U5 Xg14 C (by decide);replace Qr11:=Qr11.cell C (show nr11=0\/zr11≠g14 by omega);clear C Xg14;have Xg14:=Y;clear Y;refine t 11 (.int .i64 (Rc.dG (Rc.dm (got E (Ky.mk 13 id 0))))) ?_
 refine ag (ab (af (ah (tlr 28 [.int .u64 (mX (got E (Ky.mk 13 id 0)) 0),.int .u64 (mX (got E (Ky.mk 13 id 0)) 1),.int .u64 (mX (got E (Ky.mk 13 id 0)) 2),.int .u64 (mX (got E (Ky.mk 13 id 0)) 3),.int .u64 (mX (got E (Ky.mk 13 id 0)) 4),.int .u64 (mX (got E (Ky.mk 13 id 0)) 5),.slice ar11 nr11 cr11] Xg14 0 ?_))));refine t 29 (.bool (Kv.look E (Ky.mk 13 id 0)).isSome) ?_
 refine ts Xg4 0 (.agg #[.int .u64 (mX (got E (Ky.mk 13 id 0)) 0),.int .u64 (mX (got E (Ky.mk 13 id 0)) 1),.int .u64 (mX (got E (Ky.mk 13 id 0)) 2),.int .u64 (mX (got E (Ky.mk 13 id 0)) 3),.int .u64 (mX (got E (Ky.mk 13 id 0)) 4),.int .u64 (mX (got E (Ky.mk 13 id 0)) 5),.slice ar11 nr11 cr11]) [.int .u64 (mX (got E (Ky.mk 13 id 0)) 0),.int .u64 (mX (got E (Ky.mk 13 id 0)) 1),.int .u64 (mX (got E (Ky.mk 13 id 0)) 2),.int .u64 (mX (got E (Ky.mk 13 id 0)) 3),.int .u64 (mX (got E (Ky.mk 13 id 0)) 4),.int .u64 (mX (got E (Ky.mk 13 id 0)) 5),.slice ar11 nr11 cr11] [.int .u64 (mX (got E (Ky.mk 13 id 0)) 0),.int .u64 (mX (got E (Ky.mk 13 id 0)) 1),.int .u64 (mX (got E (Ky.mk 13 id 0)) 2),.int .u64 (mX (got E (Ky.mk 13 id 0)) 3),.int .u64 (mX (got E (Ky.mk 13 id 0)) 4),.int .u64 (mX (got E (Ky.mk 13 id 0)) 5),.slice ar11 nr11 cr11] ?_
 intro v16 Y C;replace A:=Bk.At.cell A Xg4 C zg4 nXg4 (by decide);replace Xg2:=Xg2.chg C (show g2≠g4 by omega);replace U5:=dW U5 Xg4 C (by decide);replace Qr11:=Qr11.cell C (show nr11=0\/zr11≠g4 by omega);replace Xg14:=Xg14.chg C (show g14≠g4 by omega);clear C Xg4;have Xg4:=Y;clear Y;refine t 7 (.bool (Kv.look E (Ky.mk 13 id 0)).isSome) ?_
 refine ag (ab (aE [(6,pg g4),(7,.bool (Kv.look E (Ky.mk 13 id 0)).isSome)] (by kernel_rfl) ?_));refine aI (aH (.tuple #[.agg #[.int .u64 (mX (got E (Ky.mk 13 id 0)) 0),.int .u64 (mX (got E (Ky.mk 13 id 0)) 1),.int .u64 (mX (got E (Ky.mk 13 id 0)) 2),.int .u64 (mX (got E (Ky.mk 13 id 0)) 3),.int .u64 (mX (got E (Ky.mk 13 id 0)) 4),.int .u64 (mX (got E (Ky.mk 13 id 0)) 5),.slice ar11 nr11 cr11],.bool (Kv.look E (Ky.mk 13 id 0)).isSome]) (AN 6 7 (T:=51) (by kernel_rfl) (by kernel_rfl) (by kernel_rfl) (lr Xg4 0)) ?_);exact⟨_,_,_,rfl,_,_,A.sx,A.km,A.cc,Qr11,mr11,by omega⟩
end
end Qu
end
section
namespace Qu
open Go.RowKit Go.Lib Pg Lim Gl Kv Bk Pw
section
variable {l:List Int}{B g n N n6 c6 q n7 c7:Nat}{w:World}{K:Nat->Prop}{E:ay}{W:List ay}{id x0 x1 x2 x3 x4 x5:Int}{a6 a7:Option Addr}
attribute [local go_sem] Oper.semAt_some
set_option linter.unusedVariables false
set_option linter.unusedSimpArgs false
theorem fb(ho:Oct l)(i:Nat)(hi:i < 6:=by decide):0<=mX l i/\mX l i < 18446744073709551616:=by
 have h:=rr0 (o:=5) (rr0 (o:=4) (rr0 (o:=3) (rr0 (o:=2) (rr0 (o:=1) (rr0 (o:=0) (s:=(0,l,fun _=>0)) ⟨ho,fun _ _=>⟨Int.le_refl _,(by decide:(0:Int) < 18446744073709551616)⟩⟩)))))
 have e:Rc.dm l=Rc.rnx 2 6 (Rc.rnx 0 5 (Rc.rnx 0 4 (Rc.rnx 0 3 (Rc.rnx 0 2 (Rc.rnx 0 1 (Rc.rnx 0 0 (0,l,fun _=>0))))))):=rfl;unfold mX Rc.bE;rw[e];generalize Rc.rnx 0 5 (Rc.rnx 0 4 (Rc.rnx 0 3 (Rc.rnx 0 2 (Rc.rnx 0 1 (Rc.rnx 0 0 (0,l,fun _=>0))))))=s at h
 have e2:(Rc.rnx 2 6 s).2.2 i=s.2.2 i:=if_neg (by omega);split
 ·rw[e2]; exact h.2 i hi
 ·exact⟨Int.le_refl _,(by decide:(0:Int) < 18446744073709551616)⟩
def kA(E:ay)(id:Int):ay:=if (Kv.look E (Ky.mk 13 id 0)).isSome=true then rh E 13 id (mX (got E (Ky.mk 13 id 0)) 0) (mX (got E (Ky.mk 13 id 0)) 1) (mX (got E (Ky.mk 13 id 0)) 4) else E
def kJ(E:ay)(id y:Int):ay:=if (Kv.look E (Ky.mk 13 id 0)).isSome=true then put E (Ky.mk 13 id 0) (mv (mX (got E (Ky.mk 13 id 0)) 0) (mX (got E (Ky.mk 13 id 0)) 1) (mX (got E (Ky.mk 13 id 0)) 2) (mX (got E (Ky.mk 13 id 0)) 3) (mX (got E (Ky.mk 13 id 0)) 4) (mX (got E (Ky.mk 13 id 0)) 5) y) else E
theorem mM{b:Bool}(h:Sx B w K g E W n N)(hid:0<=id/\id < 18446744073709551616)(hn:n + 30<=4000000000000000000)(hN:N + 30<=100000000)(hb:(Kv.look E (Ky.mk 13 id 0)).isSome=b):Calls Tryz.prog 92 #[pg g,.agg #[.int .i64 13,.func (.func 124) #[] #[],.func (.func 125) #[] #[],.func (.func 126) #[] #[]],.int .u64 id] w (tY B w K g E W (n + 1) N (got E (Ky.mk 13 id 0)) b):=by
 subst hb;exact Bj h hid hn hN
theorem beginM{x6:Int}{z6:Nat}(h:Sx B w K g E W n N)(hx0:0<=x0/\x0 < 18446744073709551616)(hx1:0<=x1/\x1 < 18446744073709551616)(hx4:0<=x4/\x4 < 18446744073709551616)(Q6:Nk w K z6 a6 n6 c6 x6)(m6:n6<=1000000)(hn:n + 40<=4000000000000000000)(hN:N + 40<=100000000):Calls Tryz.prog 61 #[pg g,.agg #[.int .i64 13,.func (.func 124) #[] #[],.func (.func 125) #[] #[],.func (.func 126) #[] #[]],.agg #[.int .u64 x0,.int .u64 x1,.int .u64 x2,.int .u64 x3,.int .u64 x4,.int .u64 x5,.slice a6 n6 c6]] w (SxE B w K g (cY E 13 (mv x0 x1 x2 x3 x4 x5 x6) x0 x1 x4) W (n + 7) (N + 10) (.int .u64 (aN (chn E)))):=by
 have hid:0<=aN (chn E)/\aN (chn E) < 18446744073709551616:=rV (h.oct _);have A:=h.at
 refine aG (n:=47) Tryz.func61 rfl (by kernel_rfl) (by kernel_rfl) ?_
 have l0:=Q6.lt;refine af (ah ?_);have lQ6:=Q6.lt;refine ta 4 [.int .i64 13,.func (.func 124) #[] #[],.func (.func 125) #[] #[],.func (.func 126) #[] #[]] 128 (pg) ?_
 intro v1 g2 Xg2 hg2 B;have zg2:=Nat.le_trans A.size hg2;have nXg2:=A.new hg2;replace Q6:=Q6.keep B;replace A:=A.keep B;clear B;have lQ6:=Q6.lt;have lXg2:=Xg2.lt;refine ta 5 [.int .u64 x0,.int .u64 x1,.int .u64 x2,.int .u64 x3,.int .u64 x4,.int .u64 x5,.slice a6 n6 c6] 51 (pg) ?_
 intro v3 g4 Xg4 hg4 B;have zg4:=Nat.le_trans A.size hg4;have nXg4:=A.new hg4;replace Q6:=Q6.keep B;replace A:=A.keep B;replace Xg2:=Xg2.keep B;clear B;refine t 6 (.int .u64 0) ?_
 refine ag (ab (af (ah (t 11 (pg g) ?_))));refine tc 12 113 #[pg g] (kI A.sx (by omega) (by omega)) ?_
 rintro _ v6 ⟨rfl,K5,S,hK,hC⟩;refine⟨_,rfl,?_⟩;replace Q6:=Q6.op hK hC;replace nXg2:=opX Xg2 nXg2 hK hC;replace Xg2:=nXg2.1;replace nXg2:=nXg2.2;replace nXg4:=opX Xg4 nXg4 hK hC;replace Xg4:=nXg4.1;replace nXg4:=nXg4.2;replace A:=A.op S hK hC;clear S hK hC;refine t 7 (.int .u64 (aN (chn E))) ?_
 refine ag (ab (af (ah (t 13 (pg g) ?_))));refine tlr 14 [.int .i64 13,.func (.func 124) #[] #[],.func (.func 125) #[] #[],.func (.func 126) #[] #[]] Xg2 0 ?_
 refine t 15 (.int .u64 (aN (chn E))) ?_
 refine tlr 16 [.int .u64 x0,.int .u64 x1,.int .u64 x2,.int .u64 x3,.int .u64 x4,.int .u64 x5,.slice a6 n6 c6] Xg4 0 ?_
 refine tc 17 123 #[pg g,.agg #[.int .i64 13,.func (.func 124) #[] #[],.func (.func 125) #[] #[],.func (.func 126) #[] #[]],.int .u64 (aN (chn E)),.agg #[.int .u64 x0,.int .u64 x1,.int .u64 x2,.int .u64 x3,.int .u64 x4,.int .u64 x5,.slice a6 n6 c6]] (layM A.sx hid Q6 m6 (by omega) (by omega)) ?_
 rintro _ v8 ⟨rfl,K7,S,hK,hC⟩;refine⟨_,rfl,?_⟩;replace Q6:=Q6.op hK hC;replace nXg2:=opX Xg2 nXg2 hK hC;replace Xg2:=nXg2.1;replace nXg2:=nXg2.2;replace nXg4:=opX Xg4 nXg4 hK hC;replace Xg4:=nXg4.1;replace nXg4:=nXg4.2;replace A:=A.op S hK hC;clear S hK hC;refine ag (ab (aE [(0,pg g),(4,pg g2),(5,pg g4),(6,.int .u64 0),(7,.int .u64 (aN (chn E)))] (by kernel_rfl) ?_));refine af (ah (t 18 (pq g2 3) ?_));refine tl 19 (.func (.func 126) #[] #[]) Xg2 3 ?_
 refine tlr 20 [.int .u64 x0,.int .u64 x1,.int .u64 x2,.int .u64 x3,.int .u64 x4,.int .u64 x5,.slice a6 n6 c6] Xg4 0 ?_
 refine tc 21 126 #[.agg #[.int .u64 x0,.int .u64 x1,.int .u64 x2,.int .u64 x3,.int .u64 x4,.int .u64 x5,.slice a6 n6 c6]] (xu) ?_
 rintro _ v9 ⟨rfl,B⟩;refine⟨_,rfl,?_⟩;replace Q6:=Q6.keep B;replace A:=A.keep B;replace Xg2:=Xg2.keep B;replace Xg4:=Xg4.keep B;clear B;have lQ6:=Q6.lt;have lXg2:=Xg2.lt;have lXg4:=Xg4.lt;refine ta 8 [.int .u64 0,.int .u64 0,.int .u64 0] 188 (pg) ?_
 intro v10 g11 Xg11 hg11 B;have zg11:=Nat.le_trans A.size hg11;have nXg11:=A.new hg11;replace Q6:=Q6.keep B;replace A:=A.keep B;replace Xg2:=Xg2.keep B;replace Xg4:=Xg4.keep B;clear B;refine ts Xg11 0 (.agg #[.int .u64 x0,.int .u64 x1,.int .u64 x4]) [.int .u64 x0,.int .u64 x1,.int .u64 x4] [.int .u64 x0,.int .u64 x1,.int .u64 x4] ?_
 intro v12 Y C;replace Q6:=Q6.cell C (show n6=0\/z6≠g11 by omega);replace A:=Bk.At.cell A Xg11 C zg11 nXg11 (by decide);replace Xg2:=Xg2.chg C (show g2≠g11 by omega);replace Xg4:=Xg4.chg C (show g4≠g11 by omega);clear C Xg11;have Xg11:=Y;clear Y;refine ag (ab (af (af (ah (tlr 22 [.int .u64 x0,.int .u64 x1,.int .u64 x4] Xg11 0 ?_)))));refine t 23 (.int .u64 (aN (chn E))) ?_
 refine tc 24 115 #[.agg #[.int .u64 x0,.int .u64 x1,.int .u64 x4],.int .u64 (aN (chn E))] (gu hx1 hx4) ?_
 rintro _ v16 ⟨as15,ms15,cs15,ps15,qs15,rs15,rfl,U13,U14,B⟩;refine⟨_,rfl,?_⟩;replace Q6:=Q6.keep B;replace A:=A.keep B;replace Xg2:=Xg2.keep B;replace Xg4:=Xg4.keep B;replace Xg11:=Xg11.keep B;clear B;refine t 25 (.int .i64 0) ?_
 refine ag (ab (aS ?_));refine nC 2 ?_
 refine af (ah (t 26 (.bool true) ?_));refine ag (ab (af (bu ?_)));refine aK (ab (af (aS (af (ah (tr 27 (.slice as15 ms15 cs15) (b8 (.agg #[.slice as15 ms15 cs15,.slice ps15 qs15 rs15]) (.int .i64 0) (.slice as15 ms15 cs15) AX) ?_))))));refine t 10 (.slice as15 ms15 cs15) ?_
 refine ag (ab (aE [(0,pg g),(4,pg g2),(6,.int .u64 0),(7,.int .u64 (aN (chn E))),(8,pg g11),(10,.slice as15 ms15 cs15),(24,.agg #[.slice as15 ms15 cs15,.slice ps15 qs15 rs15]),(25,.int .i64 0),(26,.bool true),(27,.slice as15 ms15 cs15)] (by kernel_rfl) ?_));refine ah (t 28 (pg g) ?_);refine t 29 (.slice as15 ms15 cs15) ?_
 refine t 30 (pg g2) ?_
 refine tl 31 (.int .i64 13) Xg2 0 ?_
 refine tr 32 (.int .u64 13) (iq 13 ⟨by decide,by decide⟩) ?_
 refine tc 33 116 #[.int .u64 13] (eC) ?_
 rintro _ v19 ⟨pv18,rfl,U17,B⟩;refine⟨_,rfl,?_⟩;replace Q6:=Q6.keep B;replace A:=A.keep B;replace Xg2:=Xg2.keep B;replace Xg4:=Xg4.keep B;replace Xg11:=Xg11.keep B;replace U13:=bh U13 B;replace U14:=bh U14 B;clear B;refine tc 34 50 #[pg g,.slice as15 ms15 cs15,pv18] (oN A.sx U13 (p7 x4 (aN (chn E))) U17 (Nat.le_trans (jw _) (by decide)) (by omega) (by omega)) ?_
 rintro _ v21 ⟨rfl,K20,S,hK,hC⟩;refine⟨_,rfl,?_⟩;replace Q6:=Q6.op hK hC;replace nXg2:=opX Xg2 nXg2 hK hC;replace Xg2:=nXg2.1;replace nXg2:=nXg2.2;replace nXg4:=opX Xg4 nXg4 hK hC;replace Xg4:=nXg4.1;replace nXg4:=nXg4.2;replace nXg11:=opX Xg11 nXg11 hK hC;replace Xg11:=nXg11.1;replace nXg11:=nXg11.2;replace U13:=A.byu U13 hC;replace U14:=A.byu U14 hC;replace U17:=A.byu U17 hC;replace A:=A.op S hK hC;clear S hK hC;clear U13;clear U17;refine ag (dw (ab (ah (t 35 (.int .i64 1) ?_))));refine t 25 (.int .i64 1) ?_
 refine ag ?_
 refine jK ?_
 refine aE [(0,pg g),(4,pg g2),(6,.int .u64 0),(7,.int .u64 (aN (chn E))),(8,pg g11),(10,.slice as15 ms15 cs15),(24,.agg #[.slice as15 ms15 cs15,.slice ps15 qs15 rs15]),(25,.int .i64 1),(26,.bool true),(27,.slice as15 ms15 cs15),(28,pg g),(29,.slice as15 ms15 cs15),(30,pg g2),(31,.int .i64 13),(32,.int .u64 13),(33,pv18),(35,.int .i64 1)] (by kernel_rfl) ?_
 refine af (ah (t 26 (.bool true) ?_));refine ag (ab (af (bu ?_)));refine aK (ab (af (aS (af (ah (tr 27 (.slice ps15 qs15 rs15) (b8 (.agg #[.slice as15 ms15 cs15,.slice ps15 qs15 rs15]) (.int .i64 1) (.slice ps15 qs15 rs15) Ac) ?_))))));refine t 10 (.slice ps15 qs15 rs15) ?_
 refine ag (ab (ah (t 28 (pg g) ?_)));refine t 29 (.slice ps15 qs15 rs15) ?_
 refine t 30 (pg g2) ?_
 refine tl 31 (.int .i64 13) Xg2 0 ?_
 refine tr 32 (.int .u64 13) (iq 13 ⟨by decide,by decide⟩) ?_
 refine tc 33 116 #[.int .u64 13] (eC) ?_
 rintro _ v24 ⟨pv23,rfl,U22,B⟩;refine⟨_,rfl,?_⟩;replace Q6:=Q6.keep B;replace A:=A.keep B;replace Xg2:=Xg2.keep B;replace Xg4:=Xg4.keep B;replace Xg11:=Xg11.keep B;replace U14:=bh U14 B;clear B;refine tc 34 50 #[pg g,.slice ps15 qs15 rs15,pv23] (oN A.sx U14 (pF x1 (aN (chn E))) U22 (Nat.le_trans (jw _) (by decide)) (by omega) (by omega)) ?_
 rintro _ v26 ⟨rfl,K25,S,hK,hC⟩;refine⟨_,rfl,?_⟩;replace Q6:=Q6.op hK hC;replace nXg2:=opX Xg2 nXg2 hK hC;replace Xg2:=nXg2.1;replace nXg2:=nXg2.2;replace nXg4:=opX Xg4 nXg4 hK hC;replace Xg4:=nXg4.1;replace nXg4:=nXg4.2;replace nXg11:=opX Xg11 nXg11 hK hC;replace Xg11:=nXg11.1;replace nXg11:=nXg11.2;replace U14:=A.byu U14 hC;replace U22:=A.byu U22 hC;replace A:=A.op S hK hC;clear S hK hC;clear U14;clear U22;refine ag (dw (ab (ah (t 35 (.int .i64 2) ?_))));refine t 25 (.int .i64 2) ?_
 refine ag ?_
 refine jK ?_
 refine aE [(0,pg g),(4,pg g2),(6,.int .u64 0),(7,.int .u64 (aN (chn E))),(8,pg g11),(10,.slice ps15 qs15 rs15),(24,.agg #[.slice as15 ms15 cs15,.slice ps15 qs15 rs15]),(25,.int .i64 2),(26,.bool true),(27,.slice ps15 qs15 rs15),(28,pg g),(29,.slice ps15 qs15 rs15),(30,pg g2),(31,.int .i64 13),(32,.int .u64 13),(33,pv23),(35,.int .i64 2)] (by kernel_rfl) ?_
 refine af (ah (t 26 (.bool false) ?_));refine ag (ab (af (bM ?_)));refine cX (cL (cL (fi (ab (af ?_)))));replace Q6:=Q6.drew;replace A:=A.drew;replace Xg2:=Xg2.drew;replace Xg4:=Xg4.drew;replace Xg11:=Xg11.drew;refine bW (fun w'=>Blk w' g11 [.int .u64 x0,.int .u64 x1,.int .u64 x4] 188) (fun _=>false) Xg11 ?_
 refine zlr 0 36 [.int .u64 x0,.int .u64 x1,.int .u64 x4] (fun _ h=>h) 0 ?_
 refine z 1 37 (pg g) ?_
 refine z 2 38 (pg g) ?_
 refine z 3 39 (pg g11) ?_
 refine zl 4 40 (.int .u64 x0) (fun _ h=>h) 0 ?_
 refine z 5 41 (pq g11 1) ?_
 refine zl 6 42 (.int .u64 x1) (fun _ h=>h) 1 ?_
 refine zc 7 43 34 #[pg g,.int .u64 x0,.int .u64 x1] (bU A.sx hx0 (by omega) (by omega)) ?_
 rintro _ v28 ⟨rfl,K27,S,hK,hC⟩;replace Q6:=Q6.op hK hC;replace nXg2:=opX Xg2 nXg2 hK hC;replace Xg2:=nXg2.1;replace nXg2:=nXg2.2;replace nXg4:=opX Xg4 nXg4 hK hC;replace Xg4:=nXg4.1;replace nXg4:=nXg4.2;replace nXg11:=opX Xg11 nXg11 hK hC;replace Xg11:=nXg11.1;replace nXg11:=nXg11.2;replace A:=A.op S hK hC;clear S hK hC;refine⟨_,rfl,Xg11,?_⟩;refine zq 8 44 (.int .u64 (IntKind.u64.wrap (cR (put (put (put (fM E) (Ky.mk 13 (aN (chn E)) 0) (mv x0 x1 x2 x3 x4 x5 x6)) (Ky.mk 14 x4 (aN (chn E))) (nv 13)) (Ky.mk 15 x1 (aN (chn E))) (nv 13)) x0 x1 + 1))) (.int .u64 ((cR (put (put (put (fM E) (Ky.mk 13 (aN (chn E)) 0) (mv x0 x1 x2 x3 x4 x5 x6)) (Ky.mk 14 x4 (aN (chn E))) (nv 13)) (Ky.mk 15 x1 (aN (chn E))) (nv 13)) x0 x1 + 1) % 18446744073709551616)) (congrArg (Value.int .u64) (IntKind.wrap_u64 _)) ?_
 refine zc 9 45 117 #[.agg #[.int .u64 x0,.int .u64 x1,.int .u64 x4],pg g,.int .u64 ((cR (put (put (put (fM E) (Ky.mk 13 (aN (chn E)) 0) (mv x0 x1 x2 x3 x4 x5 x6)) (Ky.mk 14 x4 (aN (chn E))) (nv 13)) (Ky.mk 15 x1 (aN (chn E))) (nv 13)) x0 x1 + 1) % 18446744073709551616)] (count_set A.sx hx0 (by omega) (by omega)) ?_
 rintro _ v30 ⟨rfl,K29,S,hK,hC⟩;replace Q6:=Q6.op hK hC;replace nXg2:=opX Xg2 nXg2 hK hC;replace Xg2:=nXg2.1;replace nXg2:=nXg2.2;replace nXg4:=opX Xg4 nXg4 hK hC;replace Xg4:=nXg4.1;replace nXg4:=nXg4.2;replace nXg11:=opX Xg11 nXg11 hK hC;replace Xg11:=nXg11.1;replace nXg11:=nXg11.2;replace A:=A.op S hK hC;clear S hK hC;refine⟨_,rfl,Xg11,?_⟩;refine bg (ab (af (ah (t 46 (.int .u64 (aN (chn E))) ?_))));refine t 6 (.int .u64 (aN (chn E))) ?_
 refine ag (ab (aE [(6,.int .u64 (aN (chn E)))] (by kernel_rfl) ?_));refine aI (aH (.int .u64 (aN (chn E))) (rs1 6 (by kernel_rfl) (by kernel_rfl)) ?_);exact⟨rfl,_,A.sx,A.km,A.cc⟩
theorem endM(h:Sx B w K g E W n N)(hid:0<=id/\id < 18446744073709551616)(hn:n + 40<=4000000000000000000)(hN:N + 40<=100000000):Calls Tryz.prog 71 #[pg g,.agg #[.int .i64 13,.func (.func 124) #[] #[],.func (.func 125) #[] #[],.func (.func 126) #[] #[]],.int .u64 id] w (SxF B w K g (kA E id) W n N (.bool (Kv.look E (Ky.mk 13 id 0)).isSome)):=by
 have A:=h.at
 refine aG (n:=51) Tryz.func71 rfl (by kernel_rfl) (by kernel_rfl) ?_
 refine af (ah (ta 4 [.int .i64 13,.func (.func 124) #[] #[],.func (.func 125) #[] #[],.func (.func 126) #[] #[]] 128 (pg) ?_));intro v1 g2 Xg2 hg2 B;have zg2:=Nat.le_trans A.size hg2;have nXg2:=A.new hg2;replace A:=A.keep B;clear B;refine t 6 (.bool false) ?_
 refine ag (ab (af (ah (t 13 (pg g) ?_))));refine tlr 14 [.int .i64 13,.func (.func 124) #[] #[],.func (.func 125) #[] #[],.func (.func 126) #[] #[]] Xg2 0 ?_
 refine t 15 (.int .u64 id) ?_
 by_cases c3:(Kv.look E (Ky.mk 13 id 0)).isSome=true
 ·refine tc 16 92 #[pg g,.agg #[.int .i64 13,.func (.func 124) #[] #[],.func (.func 125) #[] #[],.func (.func 126) #[] #[]],.int .u64 id] (mM A.sx hid (by omega) (by omega) c3) ?_
  rintro _ v6 ⟨ar5,nr5,cr5,rfl,zr5,K4,S,hK,hC,Qr5,mr5,hzr5⟩;refine⟨_,rfl,?_⟩;have kXg2r5:=Xg2.lt;have sr5:=A.size;replace nXg2:=opX Xg2 nXg2 hK hC;replace Xg2:=nXg2.1;replace nXg2:=nXg2.2;replace A:=A.op S hK hC;clear S hK hC;refine t 12 (.tuple #[.agg #[.int .u64 (mX (got E (Ky.mk 13 id 0)) 0),.int .u64 (mX (got E (Ky.mk 13 id 0)) 1),.int .u64 (mX (got E (Ky.mk 13 id 0)) 2),.int .u64 (mX (got E (Ky.mk 13 id 0)) 3),.int .u64 (mX (got E (Ky.mk 13 id 0)) 4),.int .u64 (mX (got E (Ky.mk 13 id 0)) 5),.slice ar5 nr5 cr5],.bool true]) ?_
  refine t 17 (.agg #[.int .u64 (mX (got E (Ky.mk 13 id 0)) 0),.int .u64 (mX (got E (Ky.mk 13 id 0)) 1),.int .u64 (mX (got E (Ky.mk 13 id 0)) 2),.int .u64 (mX (got E (Ky.mk 13 id 0)) 3),.int .u64 (mX (got E (Ky.mk 13 id 0)) 4),.int .u64 (mX (got E (Ky.mk 13 id 0)) 5),.slice ar5 nr5 cr5]) ?_
  refine t 18 (.bool true) ?_
  have lXg2:=Xg2.lt;have lQr5:=Qr5.lt;refine ta 7 [.int .u64 0,.int .u64 0,.int .u64 0,.int .u64 0,.int .u64 0,.int .u64 0,.slice none 0 0] 51 (pg) ?_
  intro v7 g8 Xg8 hg8 B;have zg8:=Nat.le_trans A.size hg8;have nXg8:=A.new hg8;replace A:=A.keep B;replace Xg2:=Xg2.keep B;replace Qr5:=Qr5.keep B;clear B;refine ts Xg8 0 (.agg #[.int .u64 (mX (got E (Ky.mk 13 id 0)) 0),.int .u64 (mX (got E (Ky.mk 13 id 0)) 1),.int .u64 (mX (got E (Ky.mk 13 id 0)) 2),.int .u64 (mX (got E (Ky.mk 13 id 0)) 3),.int .u64 (mX (got E (Ky.mk 13 id 0)) 4),.int .u64 (mX (got E (Ky.mk 13 id 0)) 5),.slice ar5 nr5 cr5]) [.int .u64 (mX (got E (Ky.mk 13 id 0)) 0),.int .u64 (mX (got E (Ky.mk 13 id 0)) 1),.int .u64 (mX (got E (Ky.mk 13 id 0)) 2),.int .u64 (mX (got E (Ky.mk 13 id 0)) 3),.int .u64 (mX (got E (Ky.mk 13 id 0)) 4),.int .u64 (mX (got E (Ky.mk 13 id 0)) 5),.slice ar5 nr5 cr5] [.int .u64 (mX (got E (Ky.mk 13 id 0)) 0),.int .u64 (mX (got E (Ky.mk 13 id 0)) 1),.int .u64 (mX (got E (Ky.mk 13 id 0)) 2),.int .u64 (mX (got E (Ky.mk 13 id 0)) 3),.int .u64 (mX (got E (Ky.mk 13 id 0)) 4),.int .u64 (mX (got E (Ky.mk 13 id 0)) 5),.slice ar5 nr5 cr5] ?_
  intro v9 Y C;replace A:=Bk.At.cell A Xg8 C zg8 nXg8 (by decide);replace Xg2:=Xg2.chg C (show g2≠g8 by omega);replace Qr5:=Qr5.cell C (show nr5=0\/zr5≠g8 by omega);clear C Xg8;have Xg8:=Y;clear Y;refine t 8 (.bool true) ?_
  refine ag (ab (aE [(0,pg g),(2,.int .u64 id),(4,pg g2),(6,.bool false),(7,pg g8),(8,.bool true)] (by kernel_rfl) ?_));refine af (af (ah (t 19 (.bool true) ?_)));refine t 20 (.bool false) ?_
  refine ag (ab (bM ?_));refine aK (ab (af (ah (t 21 (pg g) ?_))));refine t 22 (pg g2) ?_
  refine tl 23 (.int .i64 13) Xg2 0 ?_
  refine t 24 (.int .u64 id) ?_
  refine tc 25 88 #[.int .i64 13,.int .u64 id,.int .u64 0] (lW hid (pY id)) ?_
  rintro _ v12 ⟨kv11,rfl,U10,B⟩;refine⟨_,rfl,?_⟩;replace A:=A.keep B;replace Xg2:=Xg2.keep B;replace Qr5:=Qr5.keep B;replace Xg8:=Xg8.keep B;clear B;refine tc 26 130 #[pg g,kv11] (qw A.sx U10 (Nat.le_trans (Ky.fY _ _ _) (by decide)) (by omega) (by omega)) ?_
  rintro _ v14 ⟨rfl,K13,S,hK,hC⟩;refine⟨_,rfl,?_⟩;replace Qr5:=Qr5.op hK hC;replace nXg2:=opX Xg2 nXg2 hK hC;replace Xg2:=nXg2.1;replace nXg2:=nXg2.2;replace nXg8:=opX Xg8 nXg8 hK hC;replace Xg8:=nXg8.1;replace nXg8:=nXg8.2;replace U10:=A.byu U10 hC;replace A:=A.op S hK hC;clear S hK hC;clear U10;refine ag (ab (af (ah (t 27 (pq g2 3) ?_))));refine tl 28 (.func (.func 126) #[] #[]) Xg2 3 ?_
  refine tlr 29 [.int .u64 (mX (got E (Ky.mk 13 id 0)) 0),.int .u64 (mX (got E (Ky.mk 13 id 0)) 1),.int .u64 (mX (got E (Ky.mk 13 id 0)) 2),.int .u64 (mX (got E (Ky.mk 13 id 0)) 3),.int .u64 (mX (got E (Ky.mk 13 id 0)) 4),.int .u64 (mX (got E (Ky.mk 13 id 0)) 5),.slice ar5 nr5 cr5] Xg8 0 ?_
  refine tc 30 126 #[.agg #[.int .u64 (mX (got E (Ky.mk 13 id 0)) 0),.int .u64 (mX (got E (Ky.mk 13 id 0)) 1),.int .u64 (mX (got E (Ky.mk 13 id 0)) 2),.int .u64 (mX (got E (Ky.mk 13 id 0)) 3),.int .u64 (mX (got E (Ky.mk 13 id 0)) 4),.int .u64 (mX (got E (Ky.mk 13 id 0)) 5),.slice ar5 nr5 cr5]] (xu) ?_
  rintro _ v15 ⟨rfl,B⟩;refine⟨_,rfl,?_⟩;replace A:=A.keep B;replace Xg2:=Xg2.keep B;replace Qr5:=Qr5.keep B;replace Xg8:=Xg8.keep B;clear B;have lXg2:=Xg2.lt;have lQr5:=Qr5.lt;have lXg8:=Xg8.lt;refine ta 9 [.int .u64 0,.int .u64 0,.int .u64 0] 188 (pg) ?_
  intro v16 g17 Xg17 hg17 B;have zg17:=Nat.le_trans A.size hg17;have nXg17:=A.new hg17;replace A:=A.keep B;replace Xg2:=Xg2.keep B;replace Qr5:=Qr5.keep B;replace Xg8:=Xg8.keep B;clear B;refine ts Xg17 0 (.agg #[.int .u64 (mX (got E (Ky.mk 13 id 0)) 0),.int .u64 (mX (got E (Ky.mk 13 id 0)) 1),.int .u64 (mX (got E (Ky.mk 13 id 0)) 4)]) [.int .u64 (mX (got E (Ky.mk 13 id 0)) 0),.int .u64 (mX (got E (Ky.mk 13 id 0)) 1),.int .u64 (mX (got E (Ky.mk 13 id 0)) 4)] [.int .u64 (mX (got E (Ky.mk 13 id 0)) 0),.int .u64 (mX (got E (Ky.mk 13 id 0)) 1),.int .u64 (mX (got E (Ky.mk 13 id 0)) 4)] ?_
  intro v18 Y C;replace A:=Bk.At.cell A Xg17 C zg17 nXg17 (by decide);replace Xg2:=Xg2.chg C (show g2≠g17 by omega);replace Qr5:=Qr5.cell C (show nr5=0\/zr5≠g17 by omega);replace Xg8:=Xg8.chg C (show g8≠g17 by omega);clear C Xg17;have Xg17:=Y;clear Y;refine ag (ab (aE [(0,pg g),(2,.int .u64 id),(6,.bool false),(9,pg g17)] (by kernel_rfl) ?_));refine af (af (ah (tlr 31 [.int .u64 (mX (got E (Ky.mk 13 id 0)) 0),.int .u64 (mX (got E (Ky.mk 13 id 0)) 1),.int .u64 (mX (got E (Ky.mk 13 id 0)) 4)] Xg17 0 ?_)));refine t 32 (.int .u64 id) ?_
  refine tc 33 115 #[.agg #[.int .u64 (mX (got E (Ky.mk 13 id 0)) 0),.int .u64 (mX (got E (Ky.mk 13 id 0)) 1),.int .u64 (mX (got E (Ky.mk 13 id 0)) 4)],.int .u64 id] (gu (fb (h.oct _) 1) (fb (h.oct _) 4)) ?_
  rintro _ v22 ⟨as21,ms21,cs21,ps21,qs21,rs21,rfl,U19,U20,B⟩;refine⟨_,rfl,?_⟩;replace A:=A.keep B;replace Xg2:=Xg2.keep B;replace Qr5:=Qr5.keep B;replace Xg8:=Xg8.keep B;replace Xg17:=Xg17.keep B;clear B;refine t 34 (.int .i64 0) ?_
  refine ag (ab (aS ?_));refine nC 2 ?_
  refine af (ah (t 35 (.bool true) ?_));refine ag (ab (af (bu ?_)));refine aK (ab (af (aS (af (ah (tr 36 (.slice as21 ms21 cs21) (b8 (.agg #[.slice as21 ms21 cs21,.slice ps21 qs21 rs21]) (.int .i64 0) (.slice as21 ms21 cs21) AX) ?_))))));refine t 11 (.slice as21 ms21 cs21) ?_
  refine ag (ab (ah (t 37 (pg g) ?_)));refine t 38 (.slice as21 ms21 cs21) ?_
  refine tc 39 130 #[pg g,.slice as21 ms21 cs21] (qw A.sx U19 (Nat.le_trans (Ky.fY _ _ _) (by decide)) (by omega) (by omega)) ?_
  rintro _ v24 ⟨rfl,K23,S,hK,hC⟩;refine⟨_,rfl,?_⟩;replace Qr5:=Qr5.op hK hC;replace nXg2:=opX Xg2 nXg2 hK hC;replace Xg2:=nXg2.1;replace nXg2:=nXg2.2;replace nXg8:=opX Xg8 nXg8 hK hC;replace Xg8:=nXg8.1;replace nXg8:=nXg8.2;replace nXg17:=opX Xg17 nXg17 hK hC;replace Xg17:=nXg17.1;replace nXg17:=nXg17.2;replace U19:=A.byu U19 hC;replace U20:=A.byu U20 hC;replace A:=A.op S hK hC;clear S hK hC;clear U19;refine ag (dw (ab (ah (t 40 (.int .i64 1) ?_))));refine t 34 (.int .i64 1) ?_
  refine ag ?_
  refine jK ?_
  refine aE [(0,pg g),(6,.bool false),(9,pg g17),(11,.slice as21 ms21 cs21),(33,.agg #[.slice as21 ms21 cs21,.slice ps21 qs21 rs21]),(34,.int .i64 1),(35,.bool true),(36,.slice as21 ms21 cs21),(37,pg g),(38,.slice as21 ms21 cs21),(40,.int .i64 1)] (by kernel_rfl) ?_
  refine af (ah (t 35 (.bool true) ?_));refine ag (ab (af (bu ?_)));refine aK (ab (af (aS (af (ah (tr 36 (.slice ps21 qs21 rs21) (b8 (.agg #[.slice as21 ms21 cs21,.slice ps21 qs21 rs21]) (.int .i64 1) (.slice ps21 qs21 rs21) Ac) ?_))))));refine t 11 (.slice ps21 qs21 rs21) ?_
  refine ag (ab (ah (t 37 (pg g) ?_)));refine t 38 (.slice ps21 qs21 rs21) ?_
  refine tc 39 130 #[pg g,.slice ps21 qs21 rs21] (qw A.sx U20 (Nat.le_trans (Ky.fY _ _ _) (by decide)) (by omega) (by omega)) ?_
  rintro _ v26 ⟨rfl,K25,S,hK,hC⟩;refine⟨_,rfl,?_⟩;replace Qr5:=Qr5.op hK hC;replace nXg2:=opX Xg2 nXg2 hK hC;replace Xg2:=nXg2.1;replace nXg2:=nXg2.2;replace nXg8:=opX Xg8 nXg8 hK hC;replace Xg8:=nXg8.1;replace nXg8:=nXg8.2;replace nXg17:=opX Xg17 nXg17 hK hC;replace Xg17:=nXg17.1;replace nXg17:=nXg17.2;replace U20:=A.byu U20 hC;replace A:=A.op S hK hC;clear S hK hC;clear U20;refine ag (dw (ab (ah (t 40 (.int .i64 2) ?_))));refine t 34 (.int .i64 2) ?_
  refine ag ?_
  refine jK ?_
  refine aE [(0,pg g),(6,.bool false),(9,pg g17),(11,.slice ps21 qs21 rs21),(33,.agg #[.slice as21 ms21 cs21,.slice ps21 qs21 rs21]),(34,.int .i64 2),(35,.bool true),(36,.slice ps21 qs21 rs21),(37,pg g),(38,.slice ps21 qs21 rs21),(40,.int .i64 2)] (by kernel_rfl) ?_
  refine af (ah (t 35 (.bool false) ?_));refine ag (ab (af (bM ?_)));refine cX (cL (cL (fi (ab (af ?_)))));replace A:=A.drew;replace Xg2:=Xg2.drew;replace Qr5:=Qr5.drew;replace Xg8:=Xg8.drew;replace Xg17:=Xg17.drew;refine bW (fun w'=>Blk w' g17 [.int .u64 (mX (got E (Ky.mk 13 id 0)) 0),.int .u64 (mX (got E (Ky.mk 13 id 0)) 1),.int .u64 (mX (got E (Ky.mk 13 id 0)) 4)] 188) (fun _=>false) Xg17 ?_
  refine zlr 0 41 [.int .u64 (mX (got E (Ky.mk 13 id 0)) 0),.int .u64 (mX (got E (Ky.mk 13 id 0)) 1),.int .u64 (mX (got E (Ky.mk 13 id 0)) 4)] (fun _ h=>h) 0 ?_
  refine z 1 42 (pg g) ?_
  refine z 2 43 (pg g) ?_
  refine z 3 44 (pg g17) ?_
  refine zl 4 45 (.int .u64 (mX (got E (Ky.mk 13 id 0)) 0)) (fun _ h=>h) 0 ?_
  refine z 5 46 (pq g17 1) ?_
  refine zl 6 47 (.int .u64 (mX (got E (Ky.mk 13 id 0)) 1)) (fun _ h=>h) 1 ?_
  refine zc 7 48 34 #[pg g,.int .u64 (mX (got E (Ky.mk 13 id 0)) 0),.int .u64 (mX (got E (Ky.mk 13 id 0)) 1)] (bU A.sx (fb (h.oct _) 0) (by omega) (by omega)) ?_
  rintro _ v28 ⟨rfl,K27,S,hK,hC⟩;replace Qr5:=Qr5.op hK hC;replace nXg2:=opX Xg2 nXg2 hK hC;replace Xg2:=nXg2.1;replace nXg2:=nXg2.2;replace nXg8:=opX Xg8 nXg8 hK hC;replace Xg8:=nXg8.1;replace nXg8:=nXg8.2;replace nXg17:=opX Xg17 nXg17 hK hC;replace Xg17:=nXg17.1;replace nXg17:=nXg17.2;replace A:=A.op S hK hC;clear S hK hC;refine⟨_,rfl,Xg17,?_⟩;refine zq 8 49 (.int .u64 (IntKind.u64.wrap (cR (rem (rem (rem E (Ky.mk 13 id 0)) (Ky.mk 14 (mX (got E (Ky.mk 13 id 0)) 4) id)) (Ky.mk 15 (mX (got E (Ky.mk 13 id 0)) 1) id)) (mX (got E (Ky.mk 13 id 0)) 0) (mX (got E (Ky.mk 13 id 0)) 1) - 1))) (.int .u64 ((cR (rem (rem (rem E (Ky.mk 13 id 0)) (Ky.mk 14 (mX (got E (Ky.mk 13 id 0)) 4) id)) (Ky.mk 15 (mX (got E (Ky.mk 13 id 0)) 1) id)) (mX (got E (Ky.mk 13 id 0)) 0) (mX (got E (Ky.mk 13 id 0)) 1) - 1) % 18446744073709551616)) (congrArg (Value.int .u64) (IntKind.wrap_u64 _)) ?_
  refine zc 9 50 117 #[.agg #[.int .u64 (mX (got E (Ky.mk 13 id 0)) 0),.int .u64 (mX (got E (Ky.mk 13 id 0)) 1),.int .u64 (mX (got E (Ky.mk 13 id 0)) 4)],pg g,.int .u64 ((cR (rem (rem (rem E (Ky.mk 13 id 0)) (Ky.mk 14 (mX (got E (Ky.mk 13 id 0)) 4) id)) (Ky.mk 15 (mX (got E (Ky.mk 13 id 0)) 1) id)) (mX (got E (Ky.mk 13 id 0)) 0) (mX (got E (Ky.mk 13 id 0)) 1) - 1) % 18446744073709551616)] (count_set A.sx (fb (h.oct _) 0) (by omega) (by omega)) ?_
  rintro _ v30 ⟨rfl,K29,S,hK,hC⟩;replace Qr5:=Qr5.op hK hC;replace nXg2:=opX Xg2 nXg2 hK hC;replace Xg2:=nXg2.1;replace nXg2:=nXg2.2;replace nXg8:=opX Xg8 nXg8 hK hC;replace Xg8:=nXg8.1;replace nXg8:=nXg8.2;replace nXg17:=opX Xg17 nXg17 hK hC;replace Xg17:=nXg17.1;replace nXg17:=nXg17.2;replace A:=A.op S hK hC;clear S hK hC;refine⟨_,rfl,Xg17,?_⟩;refine bg (ab (af (ah (t 6 (.bool true) ?_))));refine ag (ab (aE [(6,.bool true)] (by kernel_rfl) ?_));refine aI (aH (.bool true) (rs1 6 (by kernel_rfl) (by kernel_rfl)) ?_);rw[show kA E id=_ from if_pos c3,show (Kv.look E (Ky.mk 13 id 0)).isSome=true from c3];exact⟨rfl,_,_,_,A.sx,by omega,by omega,A.km,A.cc⟩
 ·refine tc 16 92 #[pg g,.agg #[.int .i64 13,.func (.func 124) #[] #[],.func (.func 125) #[] #[],.func (.func 126) #[] #[]],.int .u64 id] (mM A.sx hid (by omega) (by omega) (Bool.eq_false_iff.2 c3)) ?_
  rintro _ v33 ⟨ar32,nr32,cr32,rfl,zr32,K31,S,hK,hC,Qr32,mr32,hzr32⟩;refine⟨_,rfl,?_⟩;have kXg2r32:=Xg2.lt;have sr32:=A.size;replace nXg2:=opX Xg2 nXg2 hK hC;replace Xg2:=nXg2.1;replace nXg2:=nXg2.2;replace A:=A.op S hK hC;clear S hK hC;refine t 12 (.tuple #[.agg #[.int .u64 (mX (got E (Ky.mk 13 id 0)) 0),.int .u64 (mX (got E (Ky.mk 13 id 0)) 1),.int .u64 (mX (got E (Ky.mk 13 id 0)) 2),.int .u64 (mX (got E (Ky.mk 13 id 0)) 3),.int .u64 (mX (got E (Ky.mk 13 id 0)) 4),.int .u64 (mX (got E (Ky.mk 13 id 0)) 5),.slice ar32 nr32 cr32],.bool false]) ?_
  refine t 17 (.agg #[.int .u64 (mX (got E (Ky.mk 13 id 0)) 0),.int .u64 (mX (got E (Ky.mk 13 id 0)) 1),.int .u64 (mX (got E (Ky.mk 13 id 0)) 2),.int .u64 (mX (got E (Ky.mk 13 id 0)) 3),.int .u64 (mX (got E (Ky.mk 13 id 0)) 4),.int .u64 (mX (got E (Ky.mk 13 id 0)) 5),.slice ar32 nr32 cr32]) ?_
  refine t 18 (.bool false) ?_
  have lXg2:=Xg2.lt;have lQr32:=Qr32.lt;refine ta 7 [.int .u64 0,.int .u64 0,.int .u64 0,.int .u64 0,.int .u64 0,.int .u64 0,.slice none 0 0] 51 (pg) ?_
  intro v34 g35 Xg35 hg35 B;have zg35:=Nat.le_trans A.size hg35;have nXg35:=A.new hg35;replace A:=A.keep B;replace Xg2:=Xg2.keep B;replace Qr32:=Qr32.keep B;clear B;refine ts Xg35 0 (.agg #[.int .u64 (mX (got E (Ky.mk 13 id 0)) 0),.int .u64 (mX (got E (Ky.mk 13 id 0)) 1),.int .u64 (mX (got E (Ky.mk 13 id 0)) 2),.int .u64 (mX (got E (Ky.mk 13 id 0)) 3),.int .u64 (mX (got E (Ky.mk 13 id 0)) 4),.int .u64 (mX (got E (Ky.mk 13 id 0)) 5),.slice ar32 nr32 cr32]) [.int .u64 (mX (got E (Ky.mk 13 id 0)) 0),.int .u64 (mX (got E (Ky.mk 13 id 0)) 1),.int .u64 (mX (got E (Ky.mk 13 id 0)) 2),.int .u64 (mX (got E (Ky.mk 13 id 0)) 3),.int .u64 (mX (got E (Ky.mk 13 id 0)) 4),.int .u64 (mX (got E (Ky.mk 13 id 0)) 5),.slice ar32 nr32 cr32] [.int .u64 (mX (got E (Ky.mk 13 id 0)) 0),.int .u64 (mX (got E (Ky.mk 13 id 0)) 1),.int .u64 (mX (got E (Ky.mk 13 id 0)) 2),.int .u64 (mX (got E (Ky.mk 13 id 0)) 3),.int .u64 (mX (got E (Ky.mk 13 id 0)) 4),.int .u64 (mX (got E (Ky.mk 13 id 0)) 5),.slice ar32 nr32 cr32] ?_
  intro v36 Y C;replace A:=Bk.At.cell A Xg35 C zg35 nXg35 (by decide);replace Xg2:=Xg2.chg C (show g2≠g35 by omega);replace Qr32:=Qr32.cell C (show nr32=0\/zr32≠g35 by omega);clear C Xg35;have Xg35:=Y;clear Y;refine t 8 (.bool false) ?_
  refine ag (ab (aE [(0,pg g),(2,.int .u64 id),(4,pg g2),(6,.bool false),(7,pg g35),(8,.bool false)] (by kernel_rfl) ?_));refine af (af (ah (t 19 (.bool false) ?_)));refine t 20 (.bool true) ?_
  refine ag (ab (bu ?_));refine af (ah (t 6 (.bool false) ?_));refine ag (ab (aI (fL (aH (.bool false) (rs1 6 (by kernel_rfl) (by kernel_rfl)) ?_))));rw[show kA E id=_ from if_neg c3,show (Kv.look E (Ky.mk 13 id 0)).isSome=false from Bool.eq_false_iff.2 c3];exact⟨rfl,_,_,_,A.sx,by omega,by omega,A.km,A.cc⟩
theorem fewer1{r:Nat}(hne:q≠r)(X:Blk w r [.int .u64 x0,.int .u64 x1,.int .u64 x2,.int .u64 x3,.int .u64 x4,.int .u64 x5,.slice a6 n6 c6] 51)(Xq:Blk w q [.slice a7 n7 c7] 49):Calls Tryz.prog 68 #[pg r,pg q] w fun e w'=>e=.returned (.tuple #[])/\Blk w' r [.int .u64 x0,.int .u64 x1,.int .u64 x2,.int .u64 x3,.int .u64 x4,.int .u64 x5,.slice a7 n7 c7] 51/\Chg (· = r) w w':=by
 have CC:Chg (· = r) w w:=Chg.refl _ _;refine aG (n:=7) Tryz.func68 rfl (by kernel_rfl) (by kernel_rfl) ?_
 refine ah (t 3 (pg r) ?_);refine tlr 4 [.slice a7 n7 c7] Xq 0 ?_
 refine t 5 (pg r) ?_
 refine t 6 (pq r 6) ?_
 refine ts X 6 (.agg #[.slice a7 n7 c7]) [.slice a7 n7 c7] [.int .u64 x0,.int .u64 x1,.int .u64 x2,.int .u64 x3,.int .u64 x4,.int .u64 x5,.slice a7 n7 c7] ?_
 intro v1 Y C;replace Xq:=Xq.chg C hne;replace CC:=CC.trans C (fun _ _ h=>h);clear C X;have X:=Y;clear Y;refine ag (kz (.tuple #[]) (rs0 (by kernel_rfl)) ?_);exact⟨rfl,X,CC⟩
theorem zt{y:Int}{z7:Nat}(h:Sx B w K g E W n N)(hid:0<=id/\id < 18446744073709551616)(Xq:Blk w q [.slice a7 n7 c7] 49)(nXq:¬ K q)(Q7:Nk w K z7 a7 n7 c7 y)(m7:n7<=1000000)(hn:n + 40<=4000000000000000000)(hN:N + 40<=100000000):Calls Tryz.prog 67 #[pg g,.agg #[.int .i64 13,.func (.func 124) #[] #[],.func (.func 125) #[] #[],.func (.func 126) #[] #[]],.int .u64 id,.func (.func 68) #[] #[pg q]] w (SxF B w K g (kJ E id y) W n N (.bool (Kv.look E (Ky.mk 13 id 0)).isSome)):=by
 have lXq:=Xq.lt;have l0:=Q7.lt;have A:=h.at
 refine aG (n:=27) Tryz.func67 rfl (by kernel_rfl) (by kernel_rfl) ?_
 refine af (ah ?_);have lXq:=Xq.lt;have lQ7:=Q7.lt;refine ta 5 [.int .i64 13,.func (.func 124) #[] #[],.func (.func 125) #[] #[],.func (.func 126) #[] #[]] 128 (pg) ?_
 intro v1 g2 Xg2 hg2 B;have zg2:=Nat.le_trans A.size hg2;have nXg2:=A.new hg2;replace Xq:=Xq.keep B;replace Q7:=Q7.keep B;replace A:=A.keep B;clear B;refine t 8 (.bool false) ?_
 refine ag (ab (af (ah (t 12 (pg g) ?_))));refine tlr 13 [.int .i64 13,.func (.func 124) #[] #[],.func (.func 125) #[] #[],.func (.func 126) #[] #[]] Xg2 0 ?_
 refine t 14 (.int .u64 id) ?_
 by_cases c3:(Kv.look E (Ky.mk 13 id 0)).isSome=true
 ·refine tc 15 92 #[pg g,.agg #[.int .i64 13,.func (.func 124) #[] #[],.func (.func 125) #[] #[],.func (.func 126) #[] #[]],.int .u64 id] (mM A.sx hid (by omega) (by omega) c3) ?_
  rintro _ v6 ⟨ar5,nr5,cr5,rfl,zr5,K4,S,hK,hC,Qr5,mr5,hzr5⟩;refine⟨_,rfl,?_⟩;have kXqr5:=Xq.lt;have kXg2r5:=Xg2.lt;have sr5:=A.size;replace Q7:=Q7.op hK hC;replace nXq:=opX Xq nXq hK hC;replace Xq:=nXq.1;replace nXq:=nXq.2;replace nXg2:=opX Xg2 nXg2 hK hC;replace Xg2:=nXg2.1;replace nXg2:=nXg2.2;replace A:=A.op S hK hC;clear S hK hC;refine t 11 (.tuple #[.agg #[.int .u64 (mX (got E (Ky.mk 13 id 0)) 0),.int .u64 (mX (got E (Ky.mk 13 id 0)) 1),.int .u64 (mX (got E (Ky.mk 13 id 0)) 2),.int .u64 (mX (got E (Ky.mk 13 id 0)) 3),.int .u64 (mX (got E (Ky.mk 13 id 0)) 4),.int .u64 (mX (got E (Ky.mk 13 id 0)) 5),.slice ar5 nr5 cr5],.bool true]) ?_
  refine t 16 (.agg #[.int .u64 (mX (got E (Ky.mk 13 id 0)) 0),.int .u64 (mX (got E (Ky.mk 13 id 0)) 1),.int .u64 (mX (got E (Ky.mk 13 id 0)) 2),.int .u64 (mX (got E (Ky.mk 13 id 0)) 3),.int .u64 (mX (got E (Ky.mk 13 id 0)) 4),.int .u64 (mX (got E (Ky.mk 13 id 0)) 5),.slice ar5 nr5 cr5]) ?_
  refine t 17 (.bool true) ?_
  have lXq:=Xq.lt;have lQ7:=Q7.lt;have lXg2:=Xg2.lt;have lQr5:=Qr5.lt;refine ta 9 [.int .u64 0,.int .u64 0,.int .u64 0,.int .u64 0,.int .u64 0,.int .u64 0,.slice none 0 0] 51 (pg) ?_
  intro v7 g8 Xg8 hg8 B;have zg8:=Nat.le_trans A.size hg8;have nXg8:=A.new hg8;replace Xq:=Xq.keep B;replace Q7:=Q7.keep B;replace A:=A.keep B;replace Xg2:=Xg2.keep B;replace Qr5:=Qr5.keep B;clear B;refine ts Xg8 0 (.agg #[.int .u64 (mX (got E (Ky.mk 13 id 0)) 0),.int .u64 (mX (got E (Ky.mk 13 id 0)) 1),.int .u64 (mX (got E (Ky.mk 13 id 0)) 2),.int .u64 (mX (got E (Ky.mk 13 id 0)) 3),.int .u64 (mX (got E (Ky.mk 13 id 0)) 4),.int .u64 (mX (got E (Ky.mk 13 id 0)) 5),.slice ar5 nr5 cr5]) [.int .u64 (mX (got E (Ky.mk 13 id 0)) 0),.int .u64 (mX (got E (Ky.mk 13 id 0)) 1),.int .u64 (mX (got E (Ky.mk 13 id 0)) 2),.int .u64 (mX (got E (Ky.mk 13 id 0)) 3),.int .u64 (mX (got E (Ky.mk 13 id 0)) 4),.int .u64 (mX (got E (Ky.mk 13 id 0)) 5),.slice ar5 nr5 cr5] [.int .u64 (mX (got E (Ky.mk 13 id 0)) 0),.int .u64 (mX (got E (Ky.mk 13 id 0)) 1),.int .u64 (mX (got E (Ky.mk 13 id 0)) 2),.int .u64 (mX (got E (Ky.mk 13 id 0)) 3),.int .u64 (mX (got E (Ky.mk 13 id 0)) 4),.int .u64 (mX (got E (Ky.mk 13 id 0)) 5),.slice ar5 nr5 cr5] ?_
  intro v9 Y C;replace Xq:=Xq.chg C (show q≠g8 by omega);replace Q7:=Q7.cell C (show n7=0\/z7≠g8 by omega);replace A:=Bk.At.cell A Xg8 C zg8 nXg8 (by decide);replace Xg2:=Xg2.chg C (show g2≠g8 by omega);replace Qr5:=Qr5.cell C (show nr5=0\/zr5≠g8 by omega);clear C Xg8;have Xg8:=Y;clear Y;refine t 10 (.bool true) ?_
  refine ag (ab (aE [(0,pg g),(2,.int .u64 id),(3,.func (.func 68) #[] #[pg q]),(5,pg g2),(8,.bool false),(9,pg g8),(10,.bool true)] (by kernel_rfl) ?_));refine af (af (ah (t 18 (.bool true) ?_)));refine ag (ab (bu ?_));refine af (ah (t 19 (.func (.func 68) #[] #[pg q]) ?_));refine tc 20 68 #[pg g8,pg q] (fewer1 (show q≠g8 by omega) Xg8 Xq) ?_
  rintro _ v10 ⟨rfl,Z,C⟩;refine⟨_,rfl,?_⟩;replace Xq:=Xq.chg C (show q≠g8 by omega);replace Q7:=Q7.cell C (show n7=0\/z7≠g8 by omega);replace A:=Bk.At.cell A Xg8 C zg8 nXg8 (by decide);replace Xg2:=Xg2.chg C (show g2≠g8 by omega);replace Qr5:=Qr5.cell C (show nr5=0\/zr5≠g8 by omega);clear C;clear Xg8;have Xg8:=Z;clear Z;refine ag (ab (ah (t 21 (pg g) ?_)));refine tlr 22 [.int .i64 13,.func (.func 124) #[] #[],.func (.func 125) #[] #[],.func (.func 126) #[] #[]] Xg2 0 ?_
  refine t 23 (.int .u64 id) ?_
  refine tlr 24 [.int .u64 (mX (got E (Ky.mk 13 id 0)) 0),.int .u64 (mX (got E (Ky.mk 13 id 0)) 1),.int .u64 (mX (got E (Ky.mk 13 id 0)) 2),.int .u64 (mX (got E (Ky.mk 13 id 0)) 3),.int .u64 (mX (got E (Ky.mk 13 id 0)) 4),.int .u64 (mX (got E (Ky.mk 13 id 0)) 5),.slice a7 n7 c7] Xg8 0 ?_
  refine tc 25 123 #[pg g,.agg #[.int .i64 13,.func (.func 124) #[] #[],.func (.func 125) #[] #[],.func (.func 126) #[] #[]],.int .u64 id,.agg #[.int .u64 (mX (got E (Ky.mk 13 id 0)) 0),.int .u64 (mX (got E (Ky.mk 13 id 0)) 1),.int .u64 (mX (got E (Ky.mk 13 id 0)) 2),.int .u64 (mX (got E (Ky.mk 13 id 0)) 3),.int .u64 (mX (got E (Ky.mk 13 id 0)) 4),.int .u64 (mX (got E (Ky.mk 13 id 0)) 5),.slice a7 n7 c7]] (layM A.sx hid Q7 m7 (by omega) (by omega)) ?_
  rintro _ v12 ⟨rfl,K11,S,hK,hC⟩;refine⟨_,rfl,?_⟩;replace Q7:=Q7.op hK hC;replace Qr5:=Qr5.op hK hC;replace nXq:=opX Xq nXq hK hC;replace Xq:=nXq.1;replace nXq:=nXq.2;replace nXg2:=opX Xg2 nXg2 hK hC;replace Xg2:=nXg2.1;replace nXg2:=nXg2.2;replace nXg8:=opX Xg8 nXg8 hK hC;replace Xg8:=nXg8.1;replace nXg8:=nXg8.2;replace A:=A.op S hK hC;clear S hK hC;refine ag (ab (af (ah (t 26 (.bool true) ?_))));refine t 8 (.bool true) ?_
  refine ag (ab (aI (aH (.bool true) (rs1 8 (by kernel_rfl) (by kernel_rfl)) ?_)));rw[show kJ E id y=_ from if_pos c3,show (Kv.look E (Ky.mk 13 id 0)).isSome=true from c3];exact⟨rfl,_,_,_,A.sx,by omega,by omega,A.km,A.cc⟩
 ·refine tc 15 92 #[pg g,.agg #[.int .i64 13,.func (.func 124) #[] #[],.func (.func 125) #[] #[],.func (.func 126) #[] #[]],.int .u64 id] (mM A.sx hid (by omega) (by omega) (Bool.eq_false_iff.2 c3)) ?_
  rintro _ v15 ⟨ar14,nr14,cr14,rfl,zr14,K13,S,hK,hC,Qr14,mr14,hzr14⟩;refine⟨_,rfl,?_⟩;have kXqr14:=Xq.lt;have kXg2r14:=Xg2.lt;have sr14:=A.size;replace Q7:=Q7.op hK hC;replace nXq:=opX Xq nXq hK hC;replace Xq:=nXq.1;replace nXq:=nXq.2;replace nXg2:=opX Xg2 nXg2 hK hC;replace Xg2:=nXg2.1;replace nXg2:=nXg2.2;replace A:=A.op S hK hC;clear S hK hC;refine t 11 (.tuple #[.agg #[.int .u64 (mX (got E (Ky.mk 13 id 0)) 0),.int .u64 (mX (got E (Ky.mk 13 id 0)) 1),.int .u64 (mX (got E (Ky.mk 13 id 0)) 2),.int .u64 (mX (got E (Ky.mk 13 id 0)) 3),.int .u64 (mX (got E (Ky.mk 13 id 0)) 4),.int .u64 (mX (got E (Ky.mk 13 id 0)) 5),.slice ar14 nr14 cr14],.bool false]) ?_
  refine t 16 (.agg #[.int .u64 (mX (got E (Ky.mk 13 id 0)) 0),.int .u64 (mX (got E (Ky.mk 13 id 0)) 1),.int .u64 (mX (got E (Ky.mk 13 id 0)) 2),.int .u64 (mX (got E (Ky.mk 13 id 0)) 3),.int .u64 (mX (got E (Ky.mk 13 id 0)) 4),.int .u64 (mX (got E (Ky.mk 13 id 0)) 5),.slice ar14 nr14 cr14]) ?_
  refine t 17 (.bool false) ?_
  have lXq:=Xq.lt;have lQ7:=Q7.lt;have lXg2:=Xg2.lt;have lQr14:=Qr14.lt;refine ta 9 [.int .u64 0,.int .u64 0,.int .u64 0,.int .u64 0,.int .u64 0,.int .u64 0,.slice none 0 0] 51 (pg) ?_
  intro v16 g17 Xg17 hg17 B;have zg17:=Nat.le_trans A.size hg17;have nXg17:=A.new hg17;replace Xq:=Xq.keep B;replace Q7:=Q7.keep B;replace A:=A.keep B;replace Xg2:=Xg2.keep B;replace Qr14:=Qr14.keep B;clear B;refine ts Xg17 0 (.agg #[.int .u64 (mX (got E (Ky.mk 13 id 0)) 0),.int .u64 (mX (got E (Ky.mk 13 id 0)) 1),.int .u64 (mX (got E (Ky.mk 13 id 0)) 2),.int .u64 (mX (got E (Ky.mk 13 id 0)) 3),.int .u64 (mX (got E (Ky.mk 13 id 0)) 4),.int .u64 (mX (got E (Ky.mk 13 id 0)) 5),.slice ar14 nr14 cr14]) [.int .u64 (mX (got E (Ky.mk 13 id 0)) 0),.int .u64 (mX (got E (Ky.mk 13 id 0)) 1),.int .u64 (mX (got E (Ky.mk 13 id 0)) 2),.int .u64 (mX (got E (Ky.mk 13 id 0)) 3),.int .u64 (mX (got E (Ky.mk 13 id 0)) 4),.int .u64 (mX (got E (Ky.mk 13 id 0)) 5),.slice ar14 nr14 cr14] [.int .u64 (mX (got E (Ky.mk 13 id 0)) 0),.int .u64 (mX (got E (Ky.mk 13 id 0)) 1),.int .u64 (mX (got E (Ky.mk 13 id 0)) 2),.int .u64 (mX (got E (Ky.mk 13 id 0)) 3),.int .u64 (mX (got E (Ky.mk 13 id 0)) 4),.int .u64 (mX (got E (Ky.mk 13 id 0)) 5),.slice ar14 nr14 cr14] ?_
  intro v18 Y C;replace Xq:=Xq.chg C (show q≠g17 by omega);replace Q7:=Q7.cell C (show n7=0\/z7≠g17 by omega);replace A:=Bk.At.cell A Xg17 C zg17 nXg17 (by decide);replace Xg2:=Xg2.chg C (show g2≠g17 by omega);replace Qr14:=Qr14.cell C (show nr14=0\/zr14≠g17 by omega);clear C Xg17;have Xg17:=Y;clear Y;refine t 10 (.bool false) ?_
  refine ag (ab (aE [(0,pg g),(2,.int .u64 id),(3,.func (.func 68) #[] #[pg q]),(5,pg g2),(8,.bool false),(9,pg g17),(10,.bool false)] (by kernel_rfl) ?_));refine af (af (ah (t 18 (.bool false) ?_)));refine ag (ab (bM ?_));refine aK (ab (af (ah (t 26 (.bool false) ?_))));refine t 8 (.bool false) ?_
  refine ag (ab (aI (aH (.bool false) (rs1 8 (by kernel_rfl) (by kernel_rfl)) ?_)));rw[show kJ E id y=_ from if_neg c3,show (Kv.look E (Ky.mk 13 id 0)).isSome=false from Bool.eq_false_iff.2 c3];exact⟨rfl,_,_,_,A.sx,by omega,by omega,A.km,A.cc⟩
end
end Qu
end
section
namespace Qu
open Go.RowKit Go.Lib Pg Lim Gl Kv Bk Pw
section
variable {B g n N:Nat}{w:World}{K:Nat->Prop}{E:ay}{W:List ay}{a6 a7:Option Addr}{id:Int}
attribute [local go_sem] Oper.semAt_some
set_option linter.unusedVariables false
set_option linter.unusedSimpArgs false
theorem kT{x0 x1 x2 x3 x4 x5 x6:Int}{n6 c6 z6:Nat}(h:Sx B w K g E W n N)(hx0:0<=x0/\x0 < 18446744073709551616)(hx1:0<=x1/\x1 < 18446744073709551616)(hx4:0<=x4/\x4 < 18446744073709551616)(Q6:Nk w K z6 a6 n6 c6 x6)(m6:n6<=1000000)(hn:n + 50<=4000000000000000000)(hN:N + 50<=100000000):Calls Tryz.prog 20 #[pg g,.agg #[.int .u64 x0,.int .u64 x1,.int .u64 x2,.int .u64 x3,.int .u64 x4,.int .u64 x5,.slice a6 n6 c6]] w (SxE B w K g (cY E 13 (mv x0 x1 x2 x3 x4 x5 x6) x0 x1 x4) W (n + 7) (N + 10) (.int .u64 (aN (chn E)))):=by
 have A:=h.at
 refine aG (n:=9) Tryz.func20 rfl (by kernel_rfl) (by kernel_rfl) ?_
 have l0:=Q6.lt;refine af (ah (ta 3 [.int .u64 x0,.int .u64 x1,.int .u64 x2,.int .u64 x3,.int .u64 x4,.int .u64 x5,.slice a6 n6 c6] 51 (pg) ?_));intro v1 g2 Xg2 hg2 B;have zg2:=Nat.le_trans A.size hg2;have nXg2:=A.new hg2;replace Q6:=Q6.keep B;replace A:=A.keep B;clear B;refine t 4 (.int .u64 0) ?_
 refine ag (ab (af ?_));replace Q6:=Q6.drew;replace A:=A.drew;replace Xg2:=Xg2.drew;refine bW (fun w'=>Blk w' g2 [.int .u64 x0,.int .u64 x1,.int .u64 x2,.int .u64 x3,.int .u64 x4,.int .u64 x5,.slice a6 n6 c6] 51) (fun _=>false) Xg2 ?_
 refine z 0 5 (pg g) ?_
 refine zlr 2 7 [.int .u64 x0,.int .u64 x1,.int .u64 x2,.int .u64 x3,.int .u64 x4,.int .u64 x5,.slice a6 n6 c6] (fun _ h=>h) 0 ?_
 refine zc 1 6 62 #[] (gK) ?_
 rintro _ v3 ⟨rfl,B⟩;replace Q6:=Q6.keep B;replace A:=A.keep B;replace Xg2:=Xg2.keep B;clear B;refine⟨_,rfl,Xg2,?_⟩;refine zc 3 8 61 #[pg g,.agg #[.int .i64 13,.func (.func 124) #[] #[],.func (.func 125) #[] #[],.func (.func 126) #[] #[]],.agg #[.int .u64 x0,.int .u64 x1,.int .u64 x2,.int .u64 x3,.int .u64 x4,.int .u64 x5,.slice a6 n6 c6]] (beginM A.sx hx0 hx1 hx4 Q6 m6 (by omega) (by omega)) ?_
 rintro _ v5 ⟨rfl,K4,S,hK,hC⟩;replace Q6:=Q6.op hK hC;replace nXg2:=opX Xg2 nXg2 hK hC;replace Xg2:=nXg2.1;replace nXg2:=nXg2.2;replace A:=A.op S hK hC;clear S hK hC;refine⟨_,rfl,Xg2,?_⟩;refine z 4 4 (.int .u64 (aN (chn E))) ?_
 refine bg (ab (aI (aH (.int .u64 (aN (chn E))) (rs1 4 (by kernel_rfl) (by kernel_rfl)) ?_)));exact⟨rfl,_,A.sx,A.km,A.cc⟩
theorem im(h:Sx B w K g E W n N)(hid:0<=id/\id < 18446744073709551616)(hn:n + 50<=4000000000000000000)(hN:N + 50<=100000000):Calls Tryz.prog 38 #[pg g,.int .u64 id] w (tY B w K g E W (n + 1) N (got E (Ky.mk 13 id 0)) (Kv.look E (Ky.mk 13 id 0)).isSome):=by
 have A:=h.at
 refine aG (n:=12) Tryz.func38 rfl (by kernel_rfl) (by kernel_rfl) ?_
 refine af (ah (ta 4 [.int .u64 0,.int .u64 0,.int .u64 0,.int .u64 0,.int .u64 0,.int .u64 0,.slice none 0 0] 51 (pg) ?_));intro v1 g2 Xg2 hg2 B;have zg2:=Nat.le_trans A.size hg2;have nXg2:=A.new hg2;replace A:=A.keep B;clear B;refine t 5 (.bool false) ?_
 refine ag (ab (af (ah (t 6 (pg g) ?_))));refine tc 7 62 #[] (gK) ?_
 rintro _ v3 ⟨rfl,B⟩;refine⟨_,rfl,?_⟩;replace A:=A.keep B;replace Xg2:=Xg2.keep B;clear B;refine t 8 (.int .u64 id) ?_
 refine tc 9 92 #[pg g,.agg #[.int .i64 13,.func (.func 124) #[] #[],.func (.func 125) #[] #[],.func (.func 126) #[] #[]],.int .u64 id] (Bj A.sx hid (by omega) (by omega)) ?_
 rintro _ v6 ⟨ar5,nr5,cr5,rfl,zr5,K4,S,hK,hC,Qr5,mr5,hzr5⟩;refine⟨_,rfl,?_⟩;have kXg2r5:=Xg2.lt;have sr5:=A.size;replace nXg2:=opX Xg2 nXg2 hK hC;replace Xg2:=nXg2.1;replace nXg2:=nXg2.2;replace A:=A.op S hK hC;clear S hK hC;refine t 10 (.agg #[.int .u64 (mX (got E (Ky.mk 13 id 0)) 0),.int .u64 (mX (got E (Ky.mk 13 id 0)) 1),.int .u64 (mX (got E (Ky.mk 13 id 0)) 2),.int .u64 (mX (got E (Ky.mk 13 id 0)) 3),.int .u64 (mX (got E (Ky.mk 13 id 0)) 4),.int .u64 (mX (got E (Ky.mk 13 id 0)) 5),.slice ar5 nr5 cr5]) ?_
 refine t 11 (.bool (Kv.look E (Ky.mk 13 id 0)).isSome) ?_
 refine ts Xg2 0 (.agg #[.int .u64 (mX (got E (Ky.mk 13 id 0)) 0),.int .u64 (mX (got E (Ky.mk 13 id 0)) 1),.int .u64 (mX (got E (Ky.mk 13 id 0)) 2),.int .u64 (mX (got E (Ky.mk 13 id 0)) 3),.int .u64 (mX (got E (Ky.mk 13 id 0)) 4),.int .u64 (mX (got E (Ky.mk 13 id 0)) 5),.slice ar5 nr5 cr5]) [.int .u64 (mX (got E (Ky.mk 13 id 0)) 0),.int .u64 (mX (got E (Ky.mk 13 id 0)) 1),.int .u64 (mX (got E (Ky.mk 13 id 0)) 2),.int .u64 (mX (got E (Ky.mk 13 id 0)) 3),.int .u64 (mX (got E (Ky.mk 13 id 0)) 4),.int .u64 (mX (got E (Ky.mk 13 id 0)) 5),.slice ar5 nr5 cr5] [.int .u64 (mX (got E (Ky.mk 13 id 0)) 0),.int .u64 (mX (got E (Ky.mk 13 id 0)) 1),.int .u64 (mX (got E (Ky.mk 13 id 0)) 2),.int .u64 (mX (got E (Ky.mk 13 id 0)) 3),.int .u64 (mX (got E (Ky.mk 13 id 0)) 4),.int .u64 (mX (got E (Ky.mk 13 id 0)) 5),.slice ar5 nr5 cr5] ?_
 intro v7 Y C;replace A:=Bk.At.cell A Xg2 C zg2 nXg2 (by decide);replace Qr5:=Qr5.cell C (show nr5=0\/zr5≠g2 by omega);clear C Xg2;have Xg2:=Y;clear Y;refine t 5 (.bool (Kv.look E (Ky.mk 13 id 0)).isSome) ?_
 refine ag (ab (aI (aH (.tuple #[.agg #[.int .u64 (mX (got E (Ky.mk 13 id 0)) 0),.int .u64 (mX (got E (Ky.mk 13 id 0)) 1),.int .u64 (mX (got E (Ky.mk 13 id 0)) 2),.int .u64 (mX (got E (Ky.mk 13 id 0)) 3),.int .u64 (mX (got E (Ky.mk 13 id 0)) 4),.int .u64 (mX (got E (Ky.mk 13 id 0)) 5),.slice ar5 nr5 cr5],.bool (Kv.look E (Ky.mk 13 id 0)).isSome]) (AN 4 5 (T:=51) (by kernel_rfl) (by kernel_rfl) (by kernel_rfl) (lr Xg2 0)) ?_)));exact⟨_,_,_,rfl,_,_,A.sx,A.km,A.cc,Qr5,mr5,by omega⟩
theorem jm{y:Int}{n7 c7 z7:Nat}(h:Sx B w K g E W n N)(hid:0<=id/\id < 18446744073709551616)(Q7:Nk w K z7 a7 n7 c7 y)(m7:n7<=1000000)(hn:n + 50<=4000000000000000000)(hN:N + 50<=100000000):Calls Tryz.prog 24 #[pg g,.int .u64 id,.agg #[.slice a7 n7 c7]] w (SxF B w K g (kJ E id y) W n N (.bool (Kv.look E (Ky.mk 13 id 0)).isSome)):=by
 have l0:=Q7.lt;have A:=h.at
 refine aG (n:=12) Tryz.func24 rfl (by kernel_rfl) (by kernel_rfl) ?_
 refine af (ah (ta 5 [.slice a7 n7 c7] 49 (pg) ?_));intro v1 g2 Xg2 hg2 B;have zg2:=Nat.le_trans A.size hg2;have nXg2:=A.new hg2;replace Q7:=Q7.keep B;replace A:=A.keep B;clear B;refine t 6 (.bool false) ?_
 refine ag (ab (af (ah (t 7 (pg g) ?_))));refine tc 8 62 #[] (gK) ?_
 rintro _ v3 ⟨rfl,B⟩;refine⟨_,rfl,?_⟩;replace Q7:=Q7.keep B;replace A:=A.keep B;replace Xg2:=Xg2.keep B;clear B;refine t 9 (.int .u64 id) ?_
 refine t 10 (.func (.func 68) #[] #[pg g2]) ?_
 refine tc 11 67 #[pg g,.agg #[.int .i64 13,.func (.func 124) #[] #[],.func (.func 125) #[] #[],.func (.func 126) #[] #[]],.int .u64 id,.func (.func 68) #[] #[pg g2]] (zt A.sx hid Xg2 nXg2 Q7 m7 (by omega) (by omega)) ?_
 rintro _ v6 ⟨rfl,K4,n5,mn5,S,bn5,dn5,hK,hC⟩;refine⟨_,rfl,?_⟩;replace Q7:=Q7.op hK hC;replace nXg2:=opX Xg2 nXg2 hK hC;replace Xg2:=nXg2.1;replace nXg2:=nXg2.2;replace A:=A.op S hK hC;clear S hK hC;refine t 6 (.bool (Kv.look E (Ky.mk 13 id 0)).isSome) ?_
 refine ag (ab (aI (aH (.bool (Kv.look E (Ky.mk 13 id 0)).isSome) (rs1 6 (by kernel_rfl) (by kernel_rfl)) ?_)));exact⟨rfl,_,_,_,A.sx,by omega,by omega,A.km,A.cc⟩
def bX(E:ay)(id k:Int):ay:=if k=12 then kx E id else if k=13 then kA E id else E
def dJ(E:ay)(id k:Int):Bool:=if k=12 then (Kv.look E (Ky.mk 12 id 0)).isSome else if k=13 then (Kv.look E (Ky.mk 13 id 0)).isSome else false
theorem bQ{k:Int}(h:Sx B w K g E W n N)(hid:0<=id/\id < 18446744073709551616)(hn:n + 50<=4000000000000000000)(hN:N + 50<=100000000):Calls Tryz.prog 26 #[pg g,.agg #[.int .u64 id,.int .i64 k]] w (SxF B w K g (bX E id k) W n N (.bool (dJ E id k))):=by
 have A:=h.at
 refine aG (n:=21) Tryz.func26 rfl (by kernel_rfl) (by kernel_rfl) ?_
 refine af (ah (ta 3 [.int .u64 id,.int .i64 k] 64 (pg) ?_));intro v1 g2 Xg2 hg2 B;have zg2:=Nat.le_trans A.size hg2;have nXg2:=A.new hg2;replace A:=A.keep B;clear B;refine t 4 (.bool false) ?_
 refine ag (ab (af (af (ah (t 5 (pq g2 1) ?_)))));refine tl 6 (.int .i64 k) Xg2 1 ?_
 refine ag (ab (aS (af (ah ?_))));by_cases c3:(k:Int)=12
 ·refine tq 8 (.bool ((k:Int) == 12)) (.bool true) (congrArg Value.bool (beq_iff_eq.2 c3)) ?_
  refine t 7 (.bool true) ?_
  refine ag (ab (bu ?_));refine af ?_
  replace A:=A.drew;replace Xg2:=Xg2.drew;refine bW (fun w'=>Blk w' g2 [.int .u64 id,.int .i64 k] 64) (fun _=>false) Xg2 ?_
  refine z 0 9 (pg g) ?_
  refine z 2 11 (pg g2) ?_
  refine zl 3 12 (.int .u64 id) (fun _ h=>h) 0 ?_
  refine zc 1 10 57 #[] (dH) ?_
  rintro _ v4 ⟨rfl,B⟩;replace A:=A.keep B;replace Xg2:=Xg2.keep B;clear B;refine⟨_,rfl,Xg2,?_⟩;refine zc 4 13 70 #[pg g,.agg #[.int .i64 12,.func (.func 118) #[] #[],.func (.func 119) #[] #[],.func (.func 120) #[] #[]],.int .u64 id] (endU A.sx hid (by omega) (by omega)) ?_
  rintro _ v7 ⟨rfl,K5,n6,mn6,S,bn6,dn6,hK,hC⟩;replace nXg2:=opX Xg2 nXg2 hK hC;replace Xg2:=nXg2.1;replace nXg2:=nXg2.2;replace A:=A.op S hK hC;clear S hK hC;refine⟨_,rfl,Xg2,?_⟩;refine z 5 4 (.bool (Kv.look E (Ky.mk 12 id 0)).isSome) ?_
  refine bg (ab (aE [(4,.bool (Kv.look E (Ky.mk 12 id 0)).isSome)] (by kernel_rfl) ?_));refine aI (r7 (fL (aH (.bool (Kv.look E (Ky.mk 12 id 0)).isSome) (rs1 4 (by kernel_rfl) (by kernel_rfl)) ?_)))
  have e1:bX E id k=kx E id:=by unfold bX; rw[if_pos c3]
  have e2:dJ E id k=(Kv.look E (Ky.mk 12 id 0)).isSome:=by unfold dJ; rw[if_pos c3]
  rw[e1,e2];exact⟨rfl,_,_,_,A.sx,by omega,by omega,A.km,A.cc⟩
 ·refine tq 8 (.bool ((k:Int) == 12)) (.bool false) (congrArg Value.bool (beq_eq_false_iff_ne.2 c3)) ?_
  refine t 7 (.bool false) ?_
  refine ag (ab (bM ?_));refine af (ah ?_);by_cases c8:(k:Int)=13
  ·refine tq 15 (.bool ((k:Int) == 13)) (.bool true) (congrArg Value.bool (beq_iff_eq.2 c8)) ?_
   refine t 14 (.bool true) ?_
   refine ag (ab (bu ?_));refine af ?_
   replace A:=A.drew;replace Xg2:=Xg2.drew;refine bW (fun w'=>Blk w' g2 [.int .u64 id,.int .i64 k] 64) (fun _=>false) Xg2 ?_
   refine z 0 16 (pg g) ?_
   refine z 2 18 (pg g2) ?_
   refine zl 3 19 (.int .u64 id) (fun _ h=>h) 0 ?_
   refine zc 1 17 62 #[] (gK) ?_
   rintro _ v9 ⟨rfl,B⟩;replace A:=A.keep B;replace Xg2:=Xg2.keep B;clear B;refine⟨_,rfl,Xg2,?_⟩;refine zc 4 20 71 #[pg g,.agg #[.int .i64 13,.func (.func 124) #[] #[],.func (.func 125) #[] #[],.func (.func 126) #[] #[]],.int .u64 id] (endM A.sx hid (by omega) (by omega)) ?_
   rintro _ v12 ⟨rfl,K10,n11,mn11,S,bn11,dn11,hK,hC⟩;replace nXg2:=opX Xg2 nXg2 hK hC;replace Xg2:=nXg2.1;replace nXg2:=nXg2.2;replace A:=A.op S hK hC;clear S hK hC;refine⟨_,rfl,Xg2,?_⟩;refine z 5 4 (.bool (Kv.look E (Ky.mk 13 id 0)).isSome) ?_
   refine bg (ab (aE [(4,.bool (Kv.look E (Ky.mk 13 id 0)).isSome)] (by kernel_rfl) ?_));refine aI (r7 (fL (aH (.bool (Kv.look E (Ky.mk 13 id 0)).isSome) (rs1 4 (by kernel_rfl) (by kernel_rfl)) ?_)))
   have e1:bX E id k=kA E id:=by unfold bX; rw[if_neg c3,if_pos c8]
   have e2:dJ E id k=(Kv.look E (Ky.mk 13 id 0)).isSome:=by unfold dJ; rw[if_neg c3,if_pos c8]
   rw[e1,e2];exact⟨rfl,_,_,_,A.sx,by omega,by omega,A.km,A.cc⟩
  ·refine tq 15 (.bool ((k:Int) == 13)) (.bool false) (congrArg Value.bool (beq_eq_false_iff_ne.2 c8)) ?_
   refine t 14 (.bool false) ?_
   refine ag (ab (bM ?_));refine aK (dw (ab (af (ah (t 4 (.bool false) ?_)))));refine ag (ab (aI (aH (.bool false) (rs1 4 (by kernel_rfl) (by kernel_rfl)) ?_)))
   have e1:bX E id k=E:=by unfold bX; rw[if_neg c3,if_neg c8]
   have e2:dJ E id k=false:=by unfold dJ; rw[if_neg c3,if_neg c8]
   rw[e1,e2];exact⟨rfl,_,_,_,A.sx,by omega,by omega,A.km,A.cc⟩
end
end Qu
end
section
namespace Kv
open Go.RowKit Go.Lib Pg
section
variable {w:World}{K D X:Nat->Prop}{F:Nat → Prop}{g m n N:Nat}{Q:List (List KV)}{jv pv:Value}{T:List Jr}{oj:Option Nat}{L:List Pg}{E:ay}{W:List ay}{p:List Int}
attribute [local go_sem] Oper.semAt_some
structure vO(Tp:TypeId->Prop)(X:Nat->Prop)(n0:Nat)(w:World)(g:Nat)(EL:List En)(v:Value):Prop where
 ex:∃ bs1 bs2 bw W1,v=.func (.func 192) #[] #[.pointer (some ⟨bs1,0,none⟩),.pointer (some ⟨bs2,0,none⟩)]/\Itr Tp 185 #[.pointer (some ⟨bw,0,none⟩)] EL.length (ArC EL) (fun V=>Chg X W1 V)/\RdC X W1 g bs1 bs2 bw w/\n0<=bs1/\n0<=bs2
 small:∀ e∈EL,e.kl.length<=1000000000/\e.vl.length<=1000000000
theorem xwmG{F V:Nat->Prop}(h:SX w K D F V g m Q jv T oj n N)(hN:N<=100000000)(hx:∀ b,X b->b=g\/¬ K b)(hU:∀ b,X b->∀ cs,¬ Blk w b cs 5)(hl:∀ b,X b->b < w.heap.size):∃ L,Wm w X F D m L/\∀ f t,(wlk (ens L) f t).map En.kl2=Q.flatten.filter (gV f t) :=
 h.wm hN (fun b hb hF=>(hx b hb).elim (fun e=>by subst e; exact h.own.ou hF) (fun n=>n (h.own.map b hF))) hU hl
theorem pJ{Tp : TypeId → Prop}{X:Nat → Prop}{n0:Nat}{w1 w2:World}{D:Nat → Prop}{bw:Nat}{n:Int}{f t:List Int}(hg : Blk w g [.pointer (some ⟨m, 0, none⟩), jv, .int .i64 n] 99)(Km : Wm w X F D m L)(B1 : Below w.heap.size w w1)(IT : Itr Tp 185 #[.pointer (some ⟨bw, 0, none⟩)] (wlk (ens L) f t).length (ArC (wlk (ens L) f t)) (fun V => Chg X w1 V))(b1 : Blk w2 w1.heap.size [.pointer (some ⟨g, 0, none⟩)] 31)(b2 : Blk w2 (w1.heap.size + 1) [.func (.func 185) #[] #[.pointer (some ⟨bw, 0, none⟩)]] 147)(B2 : Below w1.heap.size w1 w2)(h0 : n0 ≤ w.heap.size) :
    vO Tp X n0 w2 g (wlk (ens L) f t) (.func (.func 192) #[] #[.pointer (some ⟨w1.heap.size, 0, none⟩), .pointer (some ⟨w1.heap.size + 1, 0, none⟩)]) :=
  ⟨⟨_, _, bw, w1, rfl, IT, ⟨Chg.of B2, b1, b2, ⟨_, (hg.keep B1).keep B2⟩⟩, Nat.le_trans h0 B1.size, by have := B1.size; omega⟩, fun e he => by
    obtain⟨es, h1, h2⟩:= sP he;exact Km.small es h1 e h2⟩
theorem yc{Tp:TypeId->Prop}(h:SA w K D g E W n N)(hN:N<=100000000)(hp:By w pv p)(hpl:p.length<=1000000)(hX1:∀ b,X b->b=g\/¬ K b)(hXU:∀ b,X b->∀ cs,¬ Blk w b cs 5)(hXl:∀ b,X b->b < w.heap.size)(hT:¬ Tp 145)(hTe:¬ Tp 223) :
  Calls Tryz.prog 86 #[.pointer (some ⟨g,0,none⟩),pv] w fun e w'=>∃ v EL,e=.returned v/\vO Tp X w.heap.size w' g EL v/\EL.map En.kl2=E.filter (fun x=>decide (p <+: x.1))/\Below w.heap.size w w':=by
 have hOct:=h.oct;have HXX:=aj (show (∀ b,X b->b=g\/¬ K b)/\(∀ b,X b->∀ cs,¬ Blk w b cs 5)/\(∀ b,X b->b < w.heap.size) from⟨hX1,hXU,hXl⟩);have HTT:=aj (show ¬ Tp 145/\¬ Tp 223 from⟨hT,hTe⟩);clear hX1 hXU hXl hT hTe;obtain⟨F,V,m,Q,jv,T,oj,hX,rfl,hB⟩:=h.open;obtain⟨pa,pc,rfl,-⟩:=id hp.ex;have hbel:=ld hp.drew (by omega);have hS:=hX.blk.drew;have HX:=aj hX;have HP:=aj hp;have HO:=aj hOct;have hpl2:=aj hpl
 have bD:Below w.heap.size w w.drew:=⟨rfl,rfl,rfl,Nat.le_refl _,fun _ _=>rfl⟩
 clear hX hp h hB hOct hpl;obtain⟨pn,hpn⟩:∃ pn,Hid (p.length=pn):=⟨_,rfl⟩
 rw[hpn.out] at HP hbel ⊢;go_enter Tryz.func86,Tryz.ntmps86;go_wp2_with fail;refine aU (S:=fun w'=>Blk w' g [.pointer (some ⟨m,0,none⟩),jv,.int .i64 n] 99) (by kernel_rfl) hS ?_
 refine ae 0 (some 5) (.pointer (some ⟨g,0,none⟩)) (by kernel_rfl) (fun _ _=>by kernel_rfl) (fun _ _ _ h=>h) hS ?_
 refine ae 1 (some 6) (.pointer (some ⟨g,0,none⟩)) (by kernel_rfl) (fun _ _=>by kernel_rfl) (fun _ _ _ h=>h) hS ?_
 refine ae 2 (some 7) (.pointer (some ⟨g,0,none⟩)) (by kernel_rfl) (fun _ _=>by kernel_rfl) (fun _ _ _ h=>h) hS ?_
 refine ae 3 (some 8) (.pointer (some ⟨g,0,none⟩)) (by kernel_rfl) (fun _ _=>by kernel_rfl) (fun _ _ _ h=>h) hS ?_
 refine aB 4 (some 9) (.pointer (some ⟨m,0,none⟩)) 90 8 g 0 (by kernel_rfl) (by kernel_rfl) (by kernel_rfl) (fun w' h=>wA (h.cell (i:=0) rfl)) (fun _ _ _ h=>h) hS ?_
 refine ae 5 (some 10) (.slice pa pn pc) (by kernel_rfl) (fun _ _=>by kernel_rfl) (fun _ _ _ h=>h) hS ?_
 refine ae 6 (some 11) (.slice pa pn pc) (by kernel_rfl) (fun _ _=>by kernel_rfl) (fun _ _ _ h=>h) hS ?_
 refine aM 7 (some 12) 143 #[.slice pa pn pc] (by kernel_rfl) (by kernel_rfl) hbel ?_
 rintro e' w1 ⟨nv,rfl,O1,B1⟩;refine⟨_,rfl,hS.keep B1,?_⟩
 have B1':=ai bD B1;replace hS:=hS.keep B1;have X1:=HX.out.keep B1';obtain⟨L,Km,hw⟩:=xwmG X1 hN HXX.out.1 (fun b hb cs k=>HXX.out.2.1 b hb cs ⟨by rw[<- B1'.block b (HXX.out.2.2 b hb)]; exact k.blk⟩) (fun b hb=>Nat.lt_of_lt_of_le (HXX.out.2.2 b hb) B1'.size)
 have hnl:(nxt p).length<=p.length:=by
  rcases di p with h1 | ⟨A,x,B,rfl,hx,hB⟩
  ·rw[dV h1]; simp
  ·rw[eX hx hB]; simp
 have tW:=lL (Tp:=Tp) Km (HP.out.keep B1') O1.by (by have:=hpl2.out; omega) (by have:=hpl2.out; omega) HTT.out.1 HTT.out.2
 refine aM 8 (some 13) 79 #[.pointer (some ⟨m,0,none⟩),.slice pa pn pc,nv] (by kernel_rfl) (by kernel_rfl) tW ?_
 rintro e' w2 ⟨bw,rfl,B2,IT⟩;refine⟨_,rfl,hS.keep B2,?_⟩;replace hS:=hS.keep B2;refine aM 9 (some 14) 141 #[.pointer (some ⟨g,0,none⟩),.func (.func 185) #[] #[.pointer (some ⟨bw,0,none⟩)]] (by kernel_rfl) (by kernel_rfl) kW ?_
 rintro e' w3 ⟨rfl,k1,k2,B3⟩;refine⟨_,rfl,hS.keep B3,?_⟩;replace hS:=hS.keep B3;refine ae 10 (some 4) (.func (.func 192) #[] #[.pointer (some ⟨w2.heap.size,0,none⟩),.pointer (some ⟨w2.heap.size + 1,0,none⟩)]) (by kernel_rfl) (fun _ _=>by kernel_rfl) (fun _ _ _ h=>h) hS ?_
 refine aP (by kernel_rfl) ?_
 simp only[Act.put,List.setIfInBounds_toArray,List.set_cons_zero,List.set_cons_succ];have FI:=aj (pJ X1.blk Km B2 IT k1 k2 B3 B1'.size);have HW:=aj (hw p (nxt p));have BB:=aj (ai (ai B1' B2) B3);clear hS X1 Km hw tW IT k1 k2 B3 B2 B1 B1' O1 bD;go_wp2;go_ret;refine⟨_,_,rfl,FI.out,?_,BB.out⟩;rw[HW.out];exact List.filter_congr (fun x hx=>wB (HO.out x hx))
theorem SA.tick(h:SA w K D g E W n N):SA (tick g w n) K D g E W (n + 1) N:=by
 obtain⟨F,V,m,Q,jv,T,oj,hX,hE,hB⟩:=h.open;exact(hX.top (dK g n w) (hX.blk.setCell (i:=2) _)).shut hE hB
theorem SA.cnt(h:SA w K D g E W n N):w.cell? ⟨g,2,none⟩=some (.int .i64 n)/\w.frozen? ⟨g,2,none⟩=false:=by
 obtain⟨F,V,m,Q,jv,T,oj,hX,hE,hB⟩:=h.open;exact⟨hX.blk.cell (i:=2) rfl,hX.blk.free 2⟩
theorem SA.kv(h:SA w K D g E W n N):∃ cs,Blk w g cs 99:=by
 obtain⟨F,V,m,Q,jv,T,oj,hX,hE,hB⟩:=h.open;exact⟨_,hX.blk⟩
end
end Kv
end
section
namespace Bk
open Go.RowKit Go.Lib Pg Kv
section
variable {a:Nat}{w2 V V':World}{cs:List Value}
attribute [local go_sem] Oper.semAt_some
def RdS(W0:World)(X K D:Nat->Prop)(g:Nat)(E:ay)(Wn:List ay)(N:Nat)(V:World):Prop:=Chg X W0 V/\(∀ b,X b->∀ cs,¬ Blk V b cs 5)/\∃ x,SA V K D g E Wn x N
def Ext(a:Nat)(w2 V:World):Prop:=(∀ b,a<=b->b < w2.heap.size->V.heap[b]? = w2.heap[b]?)/\w2.heap.size<=V.heap.size
theorem Ext.rcd(h:Ext a w2 V)(hr:Rec w2.heap.size V V'):Ext a w2 V' :=
 ⟨fun b h1 h2=>by
  have e:=h.1 b h1 h2
  have h3:w2.heap[b]? = some w2.heap[b]:=Array.getElem?_eq_getElem h2;rw[h3] at e ⊢;exact hr.same b _ e (.inl h2),Nat.le_trans h.2 hr.size⟩
theorem Ext.keep(h:Ext a w2 V)(hb:Below V.heap.size V V'):Ext a w2 V' :=
 ⟨fun b h1 h2=>(hb.block b (Nat.lt_of_lt_of_le h2 h.2)).trans (h.1 b h1 h2),Nat.le_trans h.2 hb.size⟩
theorem Ext.tick{g x:Nat}(h:Ext a w2 V)(hg:g < a):Ext a w2 (tick g V x) :=
 ⟨fun b h1 h2=>(eG (by omega)).trans (h.1 b h1 h2),by rw[eA]; exact h.2⟩
theorem Ext.blk{b:Nat}{t:TypeId}(h:Ext a w2 V)(k:Blk w2 b cs t)(hb:a<=b):Blk V b cs t:=k.same (h.1 b hb k.lt)
end
end Bk
end
section
namespace Kv
open Go.RowKit Go.Lib Pg Bk
section
variable {a:Nat}{R V V' w:World}{F:Nat->Prop}{g:Operand}{lb:Array Value}{Ar:Nat → Array Value → Nat → World → Prop}{Rd:World → Prop}{ps:Array Tmp}
attribute [local go_sem] Oper.semAt_some
structure eN(a:Nat)(R V:World):Prop where
 same:∀ b cs t m,a<=b->R.heap[b]? = some (.cells cs t m)->V.heap[b]? = some (.cells cs t m)
 size:R.heap.size<=V.heap.size
theorem eN.of(h:Ext a R V):eN a R V:=⟨fun b _ _ _ h1 h2=>(h.1 b h1 (lt_of_block h2)).trans h2,h.2⟩
theorem eN.rcd{B:Nat}(h:eN a R V)(hr:Rec B V V'):eN a R V':=⟨fun b cs t m h1 h2=>hr.same b _ (h.same b cs t m h1 h2) (.inr rfl),Nat.le_trans h.size hr.size⟩
theorem eN.keep(h:eN a R V)(hb:Below V.heap.size V V'):eN a R V':=⟨fun b cs t m h1 h2=>(hb.block b (lt_of_block (h.same b cs t m h1 h2))).trans (h.same b cs t m h1 h2),Nat.le_trans h.size hb.size⟩
theorem eN.chg(h:eN a R V)(hc:Chg F V V')(hF:∀ b,F b->b < a\/R.heap.size<=b):eN a R V':=⟨fun b cs t m h1 h2=>(hc.same b (lt_of_block (h.same b cs t m h1 h2)) (fun hf=>by have:=hF b hf; have:=lt_of_block h2; omega)).trans (h.same b cs t m h1 h2),Nat.le_trans h.size hc.size⟩
theorem eN.tick{g x:Nat}(h:eN a R V)(hg:g < a):eN a R (tick g V x):=h.chg (dK g x V) (fun b e=>.inl (by have e':b=g:=e; omega))
theorem Ext.mix{Tp:TypeId->Prop}(h:Ext a R V)(hk:aX Tp a V V')(hc:eN a R V'):Ext a R V' :=
 ⟨fun b h1 h2=>by
  have e:=h.1 b h1 h2
  have h3:R.heap[b]? = some R.heap[b]:=Array.getElem?_eq_getElem h2
  cases ho:R.heap[b] with
  | cells cs t m=>rw[ho] at h3; rw[hc.same b cs t m h1 h3,h3]
  | _=>rw[ho] at h3; rw[h3] at e ⊢; exact hk.same b _ h1 e (fun _ _ _ h=>by cases h),hc.size⟩
def ItrE(W0:World)(Tp:TypeId->Prop)(g x0:Nat)(gf:Nat)(lb:Array Value)(N:Nat)(Ar:Nat->Array Value->Nat->World->Prop)(Rd:World->Prop):Prop :=
 ∀ (l:Nat) (J0:World->Prop) (J Jt Jx:World->Nat->World->Prop) (W:World),(∀ b,W0.heap.size<=b->∀ cs,¬ Blk W b cs 5)->W0.heap.size<=W.heap.size->St W.heap.size J0->(∀ R i,St W.heap.size (J R i))->(∀ R i,St W.heap.size (Jt R i))->(∀ R i,St W.heap.size (Jx R i))->g < W.heap.size ->
  (∀ V,J0 V->V.cell? ⟨g,2,none⟩=some (.int .i64 x0)/\V.frozen? ⟨g,2,none⟩=false/\Rd V/\∀ R,W.heap.size<=R.heap.size->eN W.heap.size R V->J R 0 (tick g V x0)) ->
  (∀ R i V,J R i V->V.cell? ⟨g,2,none⟩=some (.int .i64 ((x0 + 1 + i:Nat):Int))/\V.frozen? ⟨g,2,none⟩=false/\Rd V/\eN W.heap.size R V/\(i < N->Jt R i (tick g V (x0 + 1 + i)))) ->
  (∀ R i args V V',W.heap.size<=R.heap.size->i < N->Jt R i V->W.heap.size<=V.heap.size->Below V.heap.size V V'->Ar i args V.heap.size V'->YieldAt Fence.wide 0 Tryz.prog l args V' fun e V''=>aX Tp W.heap.size V' V''/\((e=.returned (.bool true)/\J R (i + 1) V'')\/(e=.returned (.bool false)/\Jx R (i + 1) V''))) ->
  J0 W ->
  Calls Tryz.prog gf (#[.func (.yield l) #[] #[]] ++ lb) W fun e W'=>(∃ v,e=.returned v)/\W.heap.size<=W'.heap.size/\∃ R:World,W.heap.size<=R.heap.size/\(J R N W'\/∃ i,i < N/\Jx R (i + 1) W')
theorem uT{Tp : TypeId → Prop}{gf N n g0 x0:Nat}(IT : ItrE w Tp g0 x0 gf lb N Ar Rd){assign body:Code}{Q : Exit → Act → World → Prop}{a:Act}(hg : a.eval g = .func (.func gf) #[] lb)(eg : ∀ args w, (callFunc gf args).run Tryz.prog w = .ok (.enter gf args) w)(hArS : ∀ i args n V W, Ar i args n V → Cel V W → Ar i args n W)(hAn : ∀ i args n V, Ar i args n V → args.size = ps.size)(I0 : World → Prop)(I It : World → Nat → World → Prop)(Ix : World → Code → Nat → World → Prop)(hI0 : St w.heap.size I0)(hI : ∀ R i, St w.heap.size (I R i))(hIt : ∀ R i, St w.heap.size (It R i))(hIx : ∀ R c i, St w.heap.size (Ix R c i))(hgw : g0 < w.heap.size)(hx0 : ∀ V, I0 V → V.cell? ⟨g0, 2, none⟩ = some (.int .i64 x0) ∧ V.frozen? ⟨g0, 2, none⟩ = false ∧ Rd V ∧ ∀ R, w.heap.size + 2 ≤ R.heap.size → eN (w.heap.size + 2) R V → I R 0 (tick g0 V x0))(hx : ∀ R i V, I R i V → V.cell? ⟨g0, 2, none⟩ = some (.int .i64 ((x0 + 1 + i : Nat) : Int)) ∧ V.frozen? ⟨g0, 2, none⟩ = false ∧ Rd V ∧ eN (w.heap.size + 2) R V ∧ (i < N → It R i (tick g0 V (x0 + 1 + i))))(h0 : I0 w)(hround : ∀ R, w.heap.size + 2 ≤ R.heap.size → vr Tp w N n ps assign body a.tmps Ar (It R) (I R) (Ix R))(hdone : ∀ R D W, w.heap.size + 2 ≤ R.heap.size → w.heap.size ≤ D → W.heap[D]? = some (.deferred (some [])) → I R N W → Q .normal { a with defers := { target := .collected D, args := #[] } :: a.defers } W)(hstop : ∀ R D c i W, w.heap.size + 2 ≤ R.heap.size → w.heap.size ≤ D → W.heap[D]? = some (.deferred (some [])) → i < N → Ix R c (i + 1) W → c.wpIn Fence.wide n Tryz.prog Q { a with defers := { target := .collected D, args := #[] } :: a.defers } W) :
    (Code.rangeFunc g ps assign body).wpIn Fence.wide n Tryz.prog Q a w := by
  refine wpIn_rangeFunc ?_
  intro fn _;obtain⟨W1, hW1⟩ : ∃ W1, (w.alloc (.deferred (some []))).alloc (.loop (cD fn a.tmps ps assign body w.heap.size .ready none)) = W1 := ⟨_, rfl⟩
  have hB1 : Below w.heap.size w W1 := by rw[← hW1]; exact ai (aa w _) (aa _ _)
  have hs1 : W1.heap.size = w.heap.size + 1 + 1 := by rw[← hW1]; simp
  have hL1 : W1.heap[w.heap.size + 1]? = some (.loop (cD fn a.tmps ps assign body w.heap.size .ready none)) := by
    rw[← hW1]; have := World.alloc_heap_new (w.alloc (.deferred (some []))) (.loop (cD fn a.tmps ps assign body w.heap.size .ready none)); rwa [World.size_alloc] at this
  have hK1 : W1.heap[w.heap.size]? = some (.deferred (some [])) := by
    rw[← hW1]; exact(Below.heap_alloc _ _ _ (by simp)).trans (World.alloc_heap_new w _)
  have t1 : ∀ V x, (tick g0 V x).heap[w.heap.size + 1]? = V.heap[w.heap.size + 1]? := fun V x => eG (by omega)
  have t2 : ∀ V x, (tick g0 V x).heap[w.heap.size]? = V.heap[w.heap.size]? := fun V x => eG (by omega)
  have hNB : ∀ b, w.heap.size ≤ b → ∀ cs, ¬ Blk W1 b cs 5 := fun b hb cs k => by
    have hlt := k.lt;have hk := k.blk;rcases Nat.lt_or_ge w.heap.size b with h1 | h1
    · obtain rfl : b = w.heap.size + 1 := by omega
      rw[hL1] at hk
      cases hk
    · obtain rfl : b = w.heap.size := by omega
      rw[hK1] at hk
      cases hk
  refine⟨w.heap.size + 1, [{ target := .collected w.heap.size, args := #[] }], W1, { target := .fn (.func gf) lb, args := #[.func (.yield (w.heap.size + 1)) #[] #[]] }, W1, gf,
    #[.func (.yield (w.heap.size + 1)) #[] #[]] ++ lb, W1, ?_, ?_, ?_, ?_, fun h => (by cases h), ?_⟩
  · rw[← hW1]; exact run_enterLoop_outer _ _ _ _ _
  · simp only[resolve, hg]
    simp[go_sem]
  · intro f' _; trivial
  · simp[invoke, go_sem, eg]
  · refine callsIn_wide.2 ?_
    refine(IT (w.heap.size + 1)
      (fun W => I0 W ∧ W.heap[w.heap.size + 1]? = some (.loop (cD fn a.tmps ps assign body w.heap.size .ready none)) ∧ W.heap[w.heap.size]? = some (.deferred (some [])))
      (fun R i W => I R i W ∧ W.heap[w.heap.size + 1]? = some (.loop (cD fn a.tmps ps assign body w.heap.size .ready none)) ∧ W.heap[w.heap.size]? = some (.deferred (some [])))
      (fun R i W => It R i W ∧ W.heap[w.heap.size + 1]? = some (.loop (cD fn a.tmps ps assign body w.heap.size .ready none)) ∧ W.heap[w.heap.size]? = some (.deferred (some [])))
      (fun R i W => ∃ c, Ix R c i W ∧ W.heap[w.heap.size + 1]? = some (.loop (cD fn a.tmps ps assign body w.heap.size .done (some c))) ∧ W.heap[w.heap.size]? = some (.deferred (some [])))
      W1 hNB (by omega) (fun X Y hx hr => ⟨hI0 X Y hx.1 (hr.mono (by omega)), hr.same _ _ hx.2.1 (.inl (by omega)), hr.same _ _ hx.2.2 (.inl (by omega))⟩)
      (fun R i X Y hx hr => ⟨hI R i X Y hx.1 (hr.mono (by omega)), hr.same _ _ hx.2.1 (.inl (by omega)), hr.same _ _ hx.2.2 (.inl (by omega))⟩)
      (fun R i X Y hx hr => ⟨hIt R i X Y hx.1 (hr.mono (by omega)), hr.same _ _ hx.2.1 (.inl (by omega)), hr.same _ _ hx.2.2 (.inl (by omega))⟩)
      (fun R i X Y hx hr => by obtain⟨c, h1, h2, h3⟩:= hx; exact⟨c, hIx R c i X Y h1 (hr.mono (by omega)), hr.same _ _ h2 (.inl (by omega)), hr.same _ _ h3 (.inl (by omega))⟩)
      (by omega)
      (fun V hv => by obtain⟨q1, q2, q3, q4⟩:= hx0 V hv.1; exact⟨q1, q2, q3, fun R hR hE => ⟨q4 R (by omega) (hs1 ▸ hE), (t1 V x0).trans hv.2.1, (t2 V x0).trans hv.2.2⟩⟩)
      (fun R i V hv => by obtain⟨q1, q2, q3, q5, q4⟩:= hx R i V hv.1; exact⟨q1, q2, q3, hs1 ▸ q5, fun hi => ⟨q4 hi, (t1 V _).trans hv.2.1, (t2 V _).trans hv.2.2⟩⟩)
      ?_ ⟨hI0 _ _ h0 (Rec.of hB1), hL1, hK1⟩).mono ?_
    · rintro R i args V V' hRs hiN ⟨hi, hl, hk⟩ hsz hb ha
      have hr := hround R (by omega) _ i args V V' (by omega) (lt_of_block hl) ⟨_, hl⟩ hiN hi hb ha;refine(iy (Tp := Tp) (B := w.heap.size) (i := 2 * i + 1) (I := oH (I R) (It R)) (Ix := fun c k => Ix R c (k / 2)) (Ar := fun k => Ar (k / 2)) (fun j => hArS (j / 2)) (fun j => by unfold oH; split; exact hI R _; exact hIt R _) (fun c j => hIx R c _) (by omega) hl (by rw[iY]; exact hi) hb (by rw[show (2 * i + 1) / 2 = i by omega]; exact ha) (hAn _ _ _ _ ha) (wpIn_mono hr ?_)).mono ?_
      · intro e a1 W1 h
        cases e <;> first
          | (refine⟨h.1, fun V2 W2 q1 q2 q3 q4 q5 q6 q7 => ?_⟩
             rw[iY] at q1;rw[show (2 * i + 1) / 2 = i by omega] at q3;exact wpIn_mono (h.2 V2 W2 q1 q2 q3 q4 q5 q6 q7) (fun e a W h => mo h))
          | exact h.elim
      · rintro e V'' ⟨hkp, h⟩
        have hk2 := hkp.same _ _ (Nat.le_refl _) (by omega) ((hb.block _ (lt_of_block hk)).trans hk) lg;refine⟨hkp.from (by omega) (by omega), h.imp (fun h => ⟨h.1, by have := h.2.1; rw[jC] at this; exact this, h.2.2, hk2⟩) (fun h => ?_)⟩;obtain⟨h1, c, h2, h3⟩:= h;rw[show (2 * i + 1 + 1) / 2 = i + 1 by omega] at h2;exact⟨h1, c, h2, h3, hk2⟩
    · rintro e W2 ⟨⟨v, rfl⟩, hsz, R, hRs, ⟨hi, hl, hk⟩ | ⟨i, hiN, c, hi, hl, hk⟩⟩
      · exact⟨none, _, run_endLoop (P := Tryz.prog) hl (by simp[cD]), hdone R _ _ (by omega) (Nat.le_refl _) ((World.putObj_heap_other (by omega)).trans hk) (hI R _ _ _ hi (Rec.put hl rfl (by omega) _))⟩
      · exact⟨some c, _, run_endLoop (P := Tryz.prog) hl (by simp[cD]), hstop R _ c i _ (by omega) (Nat.le_refl _) ((World.putObj_heap_other (by omega)).trans hk) hiN (hIx R c _ _ _ hi (Rec.put hl rfl (by omega) _))⟩
end
end Kv
end
section
namespace Pw
open Go.RowKit Go.Lib Pg Kv Bk
attribute [local go_sem] Oper.semAt_some
end Pw
end
section
namespace Pw
open Go.RowKit Go.Lib Pg Kv Bk
attribute [local go_sem] Oper.semAt_some
section
variable {w w':World} {B B':Nat} {v:Value} {l:List Int}
end
theorem vX {w w':World} {K D:Nat->Prop} {g n N B:Nat} {E:ay} {W:List ay} (h:SA w K D g E W n N) (hr:Rec B w w'):SA w' K D g E W n N :=
 h.same (fun b hK=>by obtain⟨cs,t,k,_⟩:=h.kind b hK; exact(hr.same b _ k.blk (.inr rfl)).trans k.blk.symm) (fun b _ _ hk=>by obtain⟨cs,k⟩:=hk; exact(hr.same b _ k.blk (.inr rfl)).trans k.blk.symm)
section
variable {Wb V V' R:World} {a t g x N:Nat} {K D:Nat->Prop} {E:ay} {Wn:List ay} {l:List Int}
end
end Pw
end
end Go.Proofs.YtliajmpchofiiaaGreat
