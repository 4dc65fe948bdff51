/- Several texts, joined: QuE, QuF, QuG, BkC, BkD, PwR, PwB, PwC. -/
import Derived.Test.YtidnifmehnjipaaGreatJap
import Derived.Test.YtidnifmehnjipaaGreatJao
set_option maxRecDepth 100000
set_option maxHeartbeats 8000000
namespace Go.Proofs.YtidnifmehnjipaaGreat
section
namespace Qu
open Go.RowKit Go.Lib Pg Lim Gl Kv Bk Pw
attribute [local go_sem] Oper.semAt_some
set_option linter.unusedVariables false
set_option linter.unusedSimpArgs false
section
variable {w:World}{x0 x1 x2 x3 x4 x5 x6 id:Int}{a6:Option Addr}{n6 c6 B g n N:Nat}{v:Value}{l:List Int}{K:Nat->Prop}{E:ax}{W:List ax}
def mv(x0 x1 x2 x3 x4 x5 x6:Int):List Int:=Rc.thr (Rc.pnx (fun o=>([x0,x1,x2,x3,x4,x5,x6]:List Int).getD o 0)) [(0,0),(0,1),(0,2),(0,3),(0,4),(0,5),(2,6)] []
theorem qw(x0 x1 x2 x3 x4 x5 x6:Int):(mv x0 x1 x2 x3 x4 x5 x6).length<=2100:=by have:=Rc.fm (fun o=>([x0,x1,x2,x3,x4,x5,x6]:List Int).getD o 0) [(0,0),(0,1),(0,2),(0,3),(0,4),(0,5),(2,6)] [];simpa[mv] using this
theorem zK(x0 x1 x2 x3 x4 x5 x6:Int):Oct (mv x0 x1 x2 x3 x4 x5 x6):=Rc.lT _ _ _ (fun _ h=>by simp at h)
theorem Av(c:ef w a6 n6 c6 x6)(a:n6<=1000000):Calls Tryz.prog 101 #[.agg #[.int .u64 x0,.int .u64 x1,.int .u64 x2,.int .u64 x3,.int .u64 x4,.int .u64 x5,.slice a6 n6 c6]] w fun e w'=>∃ v,e=.returned v/\ByU w' v (mv x0 x1 x2 x3 x4 x5 x6)/\Below w.heap.size w w':=by
 refine(Rc.su c a).mono ?_
 rintro e w' ⟨b,n,rfl,hn,X,hb,B⟩;exact⟨_,rfl,lJ X (zK _ _ _ _ _ _ _) hn (Nat.le_trans (qw _ _ _ _ _ _ _) (by decide)),B⟩
def mX(l:List Int)(i:Nat):Int:=Rc.aS (Rc.bz l) i
def mA(l:List Int)(v:Value):Array Value:=#[.int .u64 (mX l 0),.int .u64 (mX l 1),.int .u64 (mX l 2),.int .u64 (mX l 3),.int .u64 (mX l 4),.int .u64 (mX l 5),v]
def mL(l:List Int)(v:Value):List Value:=[.int .u64 (mX l 0),.int .u64 (mX l 1),.int .u64 (mX l 2),.int .u64 (mX l 3),.int .u64 (mX l 4),.int .u64 (mX l 5),v]
theorem D1(h:ByU w v l)(d:l.length<=1000000000):Calls Tryz.prog 102 #[v] w fun e w'=>∃ a6 n6 c6,e=.returned (.tuple #[.agg (mA l (.slice a6 n6 c6)),.int .i64 (Rc.aU (Rc.bz l))])/\(Rc.dg w' w.heap.size a6 n6 c6 (mX l 6)/\n6<=510)/\Below w.heap.size w w':=by
 obtain⟨b,f,c,rfl,a⟩:=bya h.byt;exact Rc.oMove a d
theorem layM{C:Nat}(h:Sx B w K g E W n N)(p:0<=id/\id < 18446744073709551616)(e:Nk w K C a6 n6 c6 x6)(v:n6<=1000000)(hn:n+30<=4000000000000000000)(I:N+30<=100000000):Calls Tryz.prog 100 #[pg g,.agg #[.int .i64 13,.func (.func 101) #[] #[],.func (.func 102) #[] #[],.func (.func 103) #[] #[]],.int .u64 id,.agg #[.int .u64 x0,.int .u64 x1,.int .u64 x2,.int .u64 x3,.int .u64 x4,.int .u64 x5,.slice a6 n6 c6]] w (SxE B w K g (put E (Ky.mk 13 id 0) (mv x0 x1 x2 x3 x4 x5 x6)) W (n+1) (N+2) (.tuple #[])):=by
 have A:=h.at
 refine aB (n:=18) Tryz.func100 rfl (by kernel_rfl) (by kernel_rfl) ?_
 have G:=e.lt;refine ab (af (ta 5 [.int .i64 13,.func (.func 101) #[] #[],.func (.func 102) #[] #[],.func (.func 103) #[] #[]] 114 (pg) ?_));intro v1 q a l B;have y:=Nat.le_trans A.size l;have d:=A.new l;replace e:=e.keep B;replace A:=A.keep B;clear B;refine ta 7 [.int .u64 x0,.int .u64 x1,.int .u64 x2,.int .u64 x3,.int .u64 x4,.int .u64 x5,.slice a6 n6 c6] 48 (pg) ?_
 intro H u b j B;have D:=Nat.le_trans A.size j;have c:=A.new j;replace e:=e.keep B;replace A:=A.keep B;replace a:=a.keep B;clear B;refine ae (aa ?_);replace e:=e.drew;replace A:=A.drew;replace a:=a.drew;replace b:=b.drew;refine bH (fun s=>Blk s q [.int .i64 13,.func (.func 101) #[] #[],.func (.func 102) #[] #[],.func (.func 103) #[] #[]] 114/\Blk s u [.int .u64 x0,.int .u64 x1,.int .u64 x2,.int .u64 x3,.int .u64 x4,.int .u64 x5,.slice a6 n6 c6] 48) (fun _=>false) ⟨a,b⟩ ?_
 refine z 0 8 (pg g) (z 1 9 (pg q) (zl 2 10 (.int .i64 13) (fun _ h=>h.1) 0 (z 3 11 (.int .u64 id) (z 5 13 (pq q 1) (zl 6 14 (.func (.func 101) #[] #[]) (fun _ h=>h.1) 1 (zlr 7 15 [.int .u64 x0,.int .u64 x1,.int .u64 x2,.int .u64 x3,.int .u64 x4,.int .u64 x5,.slice a6 n6 c6] (fun _ h=>h.2) 0 (zc 4 12 64 #[.int .i64 13,.int .u64 id,.int .u64 0] (oe p (gL id)) ?_)))))));rintro _ F ⟨r,rfl,i,B⟩;replace e:=e.keep B;replace A:=A.keep B;replace a:=a.keep B;replace b:=b.keep B;clear B;refine⟨_,rfl,⟨a,b⟩,?_⟩;refine zc 8 16 101 #[.agg #[.int .u64 x0,.int .u64 x1,.int .u64 x2,.int .u64 x3,.int .u64 x4,.int .u64 x5,.slice a6 n6 c6]] (Av e.nat v) ?_
 rintro _ v10 ⟨o,rfl,m,B⟩;replace e:=e.keep B;replace A:=A.keep B;replace a:=a.keep B;replace b:=b.keep B;replace i:=ay i B;clear B;refine⟨_,rfl,⟨a,b⟩,?_⟩;refine zc 9 17 33 #[pg g,r,o] (qf A.sx i (gL id) m (Nat.le_trans (qw _ _ _ _ _ _ _) (by decide)) (by omega) (by omega)) ?_
 rintro _ x ⟨rfl,t,S,k,f⟩;replace e:=e.op k f;replace d:=opX a d k f;replace a:=d.1;replace d:=d.2;replace c:=opX b c k f;replace b:=c.1;replace c:=c.2;replace i:=A.byu i f;replace m:=A.byu m f;replace A:=A.op S k f;clear S k f;clear i;clear m;refine⟨_,rfl,⟨a,b⟩,?_⟩;refine bC (j1 (.tuple #[]) (rs0 (by kernel_rfl)) ?_);exact⟨rfl,_,A.sx,A.km,A.cc⟩
structure wN(B:Nat)(w:World)(K:Nat->Prop)(g:Nat)(E:ax)(W:List ax)(n N:Nat)(L:List Int)(b:Bool)(e:Ending)(w':World):Prop where
 ex:∃ a6 n6 c6,e=.returned (.tuple #[.agg (mA L (.slice a6 n6 c6)),.bool b])/\∃ z6 K',Sx B w' K' g E W n N/\(∀ b,K' b->K b\/w.heap.size<=b)/\Chg K w w'/\Nq w' K' z6 a6 n6 c6 (mX L 6)/\n6<=510/\(n6=0\/w.heap.size<=z6)
theorem ES(h:Sx B w K g E W n N)(L:0<=id/\id < 18446744073709551616)(hn:n+30<=4000000000000000000)(hN:N+30<=100000000):Calls Tryz.prog 67 #[pg g,.agg #[.int .i64 13,.func (.func 101) #[] #[],.func (.func 102) #[] #[],.func (.func 103) #[] #[]],.int .u64 id] w (wN B w K g E W (n+1) N (got E (Ky.mk 13 id 0)) (Kv.look E (Ky.mk 13 id 0)).isSome):=by
 have A:=h.at
 refine aB (n:=30) Tryz.func67 rfl (by kernel_rfl) (by kernel_rfl) ?_
 refine ab (af (ta 4 [.int .i64 13,.func (.func 101) #[] #[],.func (.func 102) #[] #[],.func (.func 103) #[] #[]] 114 (pg) ?_));intro v1 z a H B;have ag:=Nat.le_trans A.size H;have I:=A.new H;replace A:=A.keep B;clear B;have D:=a.lt;refine ta 6 [.int .u64 0,.int .u64 0,.int .u64 0,.int .u64 0,.int .u64 0,.int .u64 0,.slice none 0 0] 48 (pg) ?_
 intro v3 s d y B;have P:=Nat.le_trans A.size y;have p:=A.new y;replace A:=A.keep B;replace a:=a.keep B;clear B;refine t 7 (.bool false) (ae (aa (ab (af (t 13 (pg g) (t 14 (pg z) (tl 15 (.int .i64 13) a 0 (t 16 (.int .u64 id) (tc 17 64 #[.int .i64 13,.int .u64 id,.int .u64 0] (oe L (gL id)) ?_)))))))));rintro _ v7 ⟨O,rfl,l,B⟩;refine⟨_,rfl,?_⟩;replace A:=A.keep B;replace a:=a.keep B;replace d:=d.keep B;clear B;refine tc 18 63 #[pg g,O] (DG A.sx l (by omega) (by omega)) ?_
 rintro _ v10 ⟨k,rfl,J,S,x⟩;refine⟨_,rfl,?_⟩;replace a:=a.chg x I;replace d:=d.chg x p;replace l:=A.byu l x;replace A:=A.op S (fun _ h=>.inl h) x;clear S x;refine t 12 (.tuple #[k,.bool (Kv.look E (Ky.mk 13 id 0)).isSome]) (t 19 (k) (t 20 (.bool (Kv.look E (Ky.mk 13 id 0)).isSome) (t 8 (k) (t 9 (.bool (Kv.look E (Ky.mk 13 id 0)).isSome) (ae (aa (aC [(4,pg z),(6,pg s),(7,.bool false),(8,k),(9,.bool (Kv.look E (Ky.mk 13 id 0)).isSome)] (by kernel_rfl) (ab (af (t 22 (pq z 2) (tl 23 (.func (.func 102) #[] #[]) a 2 (t 24 (k) (tc 25 102 #[k] (D1 J (Sx.qF A.sx _)) ?_)))))))))))));rintro _ ad ⟨e,c,f,rfl,⟨R,F⟩,B⟩;refine⟨_,rfl,?_⟩;have v:=a.lt;have G:=d.lt;have U:=A.size;obtain⟨q,Q,i⟩:=vg R (fun b hb=>A.lt hb);clear R;replace A:=A.keep B;replace a:=a.keep B;replace d:=d.keep B;replace l:=ay l B;replace J:=ay J B;clear B;clear J;refine t 21 (.tuple #[.agg (mA (got E (Ky.mk 13 id 0)) (.slice e c f)),.int .i64 (Rc.aU (Rc.bz (got E (Ky.mk 13 id 0))))]) (t 26 (.agg (mA (got E (Ky.mk 13 id 0)) (.slice e c f))) (t 27 (.int .i64 (Rc.aU (Rc.bz (got E (Ky.mk 13 id 0))))) ?_));have D:=a.lt;have V:=d.lt;have M:=i.lt;refine ta 10 [.int .u64 0,.int .u64 0,.int .u64 0,.int .u64 0,.int .u64 0,.int .u64 0,.slice none 0 0] 48 (pg) ?_
 intro X m j o B;have u:=Nat.le_trans A.size o;have r:=A.new o;replace A:=A.keep B;replace a:=a.keep B;replace d:=d.keep B;replace l:=ay l B;replace i:=i.keep B;clear B;refine ts j 0 (.agg (mA (got E (Ky.mk 13 id 0)) (.slice e c f))) (mL (got E (Ky.mk 13 id 0)) (.slice e c f)) (mL (got E (Ky.mk 13 id 0)) (.slice e c f)) ?_
 intro Z Y C;replace A:=Bk.At.cell A j C u r (by decide);replace a:=a.chg C (show z≠m by omega);replace d:=d.chg C (show s≠m by omega);replace l:=bO l j C (by decide);replace i:=i.cell C (show c=0\/q≠m by omega);clear C j;have j:=Y;clear Y;refine t 11 (.int .i64 (Rc.aU (Rc.bz (got E (Ky.mk 13 id 0))))) (ae (aa (ab (af (tlr 28 (mL (got E (Ky.mk 13 id 0)) (.slice e c f)) j 0 (t 29 (.bool (Kv.look E (Ky.mk 13 id 0)).isSome) (ts d 0 (.agg (mA (got E (Ky.mk 13 id 0)) (.slice e c f))) (mL (got E (Ky.mk 13 id 0)) (.slice e c f)) (mL (got E (Ky.mk 13 id 0)) (.slice e c f)) ?_)))))));intro ac Y C;replace A:=Bk.At.cell A d C P p (by decide);replace a:=a.chg C (show z≠s by omega);replace l:=bO l d C (by decide);replace i:=i.cell C (show c=0\/q≠s by omega);replace j:=j.chg C (show m≠s by omega);clear C d;have d:=Y;clear Y;refine t 7 (.bool (Kv.look E (Ky.mk 13 id 0)).isSome) (ae (aa (aC [(6,pg s),(7,.bool (Kv.look E (Ky.mk 13 id 0)).isSome)] (by kernel_rfl) (aF (aE (.tuple #[.agg (mA (got E (Ky.mk 13 id 0)) (.slice e c f)),.bool (Kv.look E (Ky.mk 13 id 0)).isSome]) (iL 6 7 (T:=48) (by kernel_rfl) (by kernel_rfl) (by kernel_rfl) (lr d 0)) ?_)))));exact⟨_,_,_,rfl,_,_,A.sx,A.km,A.cc,i,F,by omega⟩
end
end Qu
end
section
namespace Qu
open Go.RowKit Go.Lib Pg Lim Gl Kv Bk Pw
attribute [local go_sem] Oper.semAt_some
set_option linter.unusedVariables false
set_option linter.unusedSimpArgs false
section
variable {l:List Int}{B g n N n6 c6 q n7 c7:Nat}{w:World}{K:Nat->Prop}{E:ax}{W:List ax}{id x0 x1 x2 x3 x4 x5:Int}{a6 a7:Option Addr}
theorem dY(a:Oct l)(i:Nat)(hi:i < 6:=by decide):0<=mX l i/\mX l i < 18446744073709551616:=by
 have h:=rr0 (o:=5) (rr0 (o:=4) (rr0 (o:=3) (rr0 (o:=2) (rr0 (o:=1) (rr0 (o:=0) (s:=(0,l,fun _=>0)) ⟨a,fun _ _=>⟨Int.le_refl _,(by decide:(0:Int) < 18446744073709551616)⟩⟩)))))
 have e:Rc.bz l=Rc.rnx 2 6 (Rc.rnx 0 5 (Rc.rnx 0 4 (Rc.rnx 0 3 (Rc.rnx 0 2 (Rc.rnx 0 1 (Rc.rnx 0 0 (0,l,fun _=>0))))))):=rfl;unfold mX Rc.aS;rw[e];generalize Rc.rnx 0 5 (Rc.rnx 0 4 (Rc.rnx 0 3 (Rc.rnx 0 2 (Rc.rnx 0 1 (Rc.rnx 0 0 (0,l,fun _=>0))))))=s at h
 have e2:(Rc.rnx 2 6 s).2.2 i=s.2.2 i:=if_neg (by omega);split
 ·rw[e2];exact h.2 i hi
 ·exact⟨Int.le_refl _,(by decide:(0:Int) < 18446744073709551616)⟩
def lX(E:ax)(id:Int):ax:=if (Kv.look E (Ky.mk 13 id 0)).isSome=true then sG E 13 id (mX (got E (Ky.mk 13 id 0)) 0) (mX (got E (Ky.mk 13 id 0)) 1) (mX (got E (Ky.mk 13 id 0)) 4) else E
def ni(E:ax)(id y:Int):ax:=if (Kv.look E (Ky.mk 13 id 0)).isSome=true then put E (Ky.mk 13 id 0) (mv (mX (got E (Ky.mk 13 id 0)) 0) (mX (got E (Ky.mk 13 id 0)) 1) (mX (got E (Ky.mk 13 id 0)) 2) (mX (got E (Ky.mk 13 id 0)) 3) (mX (got E (Ky.mk 13 id 0)) 4) (mX (got E (Ky.mk 13 id 0)) 5) y) else E
theorem qh{b:Bool}(h:Sx B w K g E W n N)(a:0<=id/\id < 18446744073709551616)(hn:n+30<=4000000000000000000)(c:N+30<=100000000)(hb:(Kv.look E (Ky.mk 13 id 0)).isSome=b):Calls Tryz.prog 67 #[pg g,.agg #[.int .i64 13,.func (.func 101) #[] #[],.func (.func 102) #[] #[],.func (.func 103) #[] #[]],.int .u64 id] w (wN B w K g E W (n+1) N (got E (Ky.mk 13 id 0)) b):=by
 subst hb;exact ES h a hn c
theorem beginM{x6:Int}{X:Nat}(h:Sx B w K g E W n N)(I:0<=x0/\x0 < 18446744073709551616)(T:0<=x1/\x1 < 18446744073709551616)(Q:0<=x4/\x4 < 18446744073709551616)(r:Nk w K X a6 n6 c6 x6)(m6:n6<=1000000)(hn:n+40<=4000000000000000000)(hN:N+40<=100000000):Calls Tryz.prog 44 #[pg g,.agg #[.int .i64 13,.func (.func 101) #[] #[],.func (.func 102) #[] #[],.func (.func 103) #[] #[]],.agg #[.int .u64 x0,.int .u64 x1,.int .u64 x2,.int .u64 x3,.int .u64 x4,.int .u64 x5,.slice a6 n6 c6]] w (SxE B w K g (eU E 13 (mv x0 x1 x2 x3 x4 x5 x6) x0 x1 x4) W (n+7) (N+10) (.int .u64 (aI (chn E)))):=by
 have R:0<=aI (chn E)/\aI (chn E) < 18446744073709551616:=lG (h.oct _);have A:=h.at
 refine aB (n:=47) Tryz.func44 rfl (by kernel_rfl) (by kernel_rfl) ?_
 have l0:=r.lt;refine ab (af ?_);have J:=r.lt;refine ta 4 [.int .i64 13,.func (.func 101) #[] #[],.func (.func 102) #[] #[],.func (.func 103) #[] #[]] 114 (pg) ?_
 intro v1 x e P B;have zg2:=Nat.le_trans A.size P;have b:=A.new P;replace r:=r.keep B;replace A:=A.keep B;clear B;have J:=r.lt;have O:=e.lt;refine ta 5 [.int .u64 x0,.int .u64 x1,.int .u64 x2,.int .u64 x3,.int .u64 x4,.int .u64 x5,.slice a6 n6 c6] 48 (pg) ?_
 intro v3 U f M B;have zg4:=Nat.le_trans A.size M;have a:=A.new M;replace r:=r.keep B;replace A:=A.keep B;replace e:=e.keep B;clear B;refine t 6 (.int .u64 0) (ae (aa (ab (af (t 11 (pg g) (tc 12 90 #[pg g] (fU A.sx (by omega) (by omega)) ?_))))));rintro _ v6 ⟨rfl,K5,S,q,l⟩;refine⟨_,rfl,?_⟩;replace r:=r.op q l;replace b:=opX e b q l;replace e:=b.1;replace b:=b.2;replace a:=opX f a q l;replace f:=a.1;replace a:=a.2;replace A:=A.op S q l;clear S q l;refine t 7 (.int .u64 (aI (chn E))) (ae (aa (ab (af (t 13 (pg g) (tlr 14 [.int .i64 13,.func (.func 101) #[] #[],.func (.func 102) #[] #[],.func (.func 103) #[] #[]] e 0 (t 15 (.int .u64 (aI (chn E))) (tlr 16 [.int .u64 x0,.int .u64 x1,.int .u64 x2,.int .u64 x3,.int .u64 x4,.int .u64 x5,.slice a6 n6 c6] f 0 (tc 17 100 #[pg g,.agg #[.int .i64 13,.func (.func 101) #[] #[],.func (.func 102) #[] #[],.func (.func 103) #[] #[]],.int .u64 (aI (chn E)),.agg #[.int .u64 x0,.int .u64 x1,.int .u64 x2,.int .u64 x3,.int .u64 x4,.int .u64 x5,.slice a6 n6 c6]] (layM A.sx R r m6 (by omega) (by omega)) ?_)))))))));rintro _ v8 ⟨rfl,K7,S,q,l⟩;refine⟨_,rfl,?_⟩;replace r:=r.op q l;replace b:=opX e b q l;replace e:=b.1;replace b:=b.2;replace a:=opX f a q l;replace f:=a.1;replace a:=a.2;replace A:=A.op S q l;clear S q l;refine ae (aa (aC [(0,pg g),(4,pg x),(5,pg U),(6,.int .u64 0),(7,.int .u64 (aI (chn E)))] (by kernel_rfl) (ab (af (t 18 (pq x 3) (tl 19 (.func (.func 103) #[] #[]) e 3 (tlr 20 [.int .u64 x0,.int .u64 x1,.int .u64 x2,.int .u64 x3,.int .u64 x4,.int .u64 x5,.slice a6 n6 c6] f 0 (tc 21 103 #[.agg #[.int .u64 x0,.int .u64 x1,.int .u64 x2,.int .u64 x3,.int .u64 x4,.int .u64 x5,.slice a6 n6 c6]] (yx) ?_))))))));rintro _ v9 ⟨rfl,B⟩;refine⟨_,rfl,?_⟩;replace r:=r.keep B;replace A:=A.keep B;replace e:=e.keep B;replace f:=f.keep B;clear B;have J:=r.lt;have O:=e.lt;have V:=f.lt;refine ta 8 [.int .u64 0,.int .u64 0,.int .u64 0] 167 (pg) ?_
 intro v10 u d G B;have L:=Nat.le_trans A.size G;have c:=A.new G;replace r:=r.keep B;replace A:=A.keep B;replace e:=e.keep B;replace f:=f.keep B;clear B;refine ts d 0 (.agg #[.int .u64 x0,.int .u64 x1,.int .u64 x4]) [.int .u64 x0,.int .u64 x1,.int .u64 x4] [.int .u64 x0,.int .u64 x1,.int .u64 x4] ?_
 intro v12 Y C;replace r:=r.cell C (show n6=0\/X≠u by omega);replace A:=Bk.At.cell A d C L c (by decide);replace e:=e.chg C (show x≠u by omega);replace f:=f.chg C (show U≠u by omega);clear C d;have d:=Y;clear Y;refine ae (aa (ab (ab (af (tlr 22 [.int .u64 x0,.int .u64 x1,.int .u64 x4] d 0 (t 23 (.int .u64 (aI (chn E))) (tc 24 92 #[.agg #[.int .u64 x0,.int .u64 x1,.int .u64 x4],.int .u64 (aI (chn E))] (ia T Q) ?_)))))));rintro _ ad ⟨i,j,k,m,o,p,rfl,v,s,B⟩;refine⟨_,rfl,?_⟩;replace r:=r.keep B;replace A:=A.keep B;replace e:=e.keep B;replace f:=f.keep B;replace d:=d.keep B;clear B;refine t 25 (.int .i64 0) (ae (aa (bp (pB 2 ?_))));refine ab (af (t 26 (.bool true) (ae (aa (ab (aO (aJ (aa (ab (bp (ab (af (tr 27 (.slice i j k) (cS (.agg #[.slice i j k,.slice m o p]) (.int .i64 0) (.slice i j k) CH) (t 10 (.slice i j k) (ae (aa (aC [(0,pg g),(4,pg x),(6,.int .u64 0),(7,.int .u64 (aI (chn E))),(8,pg u),(10,.slice i j k),(24,.agg #[.slice i j k,.slice m o p]),(25,.int .i64 0),(26,.bool true),(27,.slice i j k)] (by kernel_rfl) (af (t 28 (pg g) (t 29 (.slice i j k) (t 30 (pg x) (tl 31 (.int .i64 13) e 0 (tr 32 (.int .u64 13) (jX 13 ⟨by decide,by decide⟩) (tc 33 93 #[.int .u64 13] (fb) ?_))))))))))))))))))))))));rintro _ v19 ⟨H,rfl,D,B⟩;refine⟨_,rfl,?_⟩;replace r:=r.keep B;replace A:=A.keep B;replace e:=e.keep B;replace f:=f.keep B;replace d:=d.keep B;replace v:=ay v B;replace s:=ay s B;clear B;refine tc 34 33 #[pg g,.slice i j k,H] (qf A.sx v (ju x4 (aI (chn E))) D (Nat.le_trans (eT _) (by decide)) (by omega) (by omega)) ?_
 rintro _ Z ⟨rfl,K20,S,q,l⟩;refine⟨_,rfl,?_⟩;replace r:=r.op q l;replace b:=opX e b q l;replace e:=b.1;replace b:=b.2;replace a:=opX f a q l;replace f:=a.1;replace a:=a.2;replace c:=opX d c q l;replace d:=c.1;replace c:=c.2;replace v:=A.byu v l;replace s:=A.byu s l;replace D:=A.byu D l;replace A:=A.op S q l;clear S q l;clear v;clear D;refine ae (dm (aa (af (t 35 (.int .i64 1) (t 25 (.int .i64 1) (ae (kK ?_)))))));refine aC [(0,pg g),(4,pg x),(6,.int .u64 0),(7,.int .u64 (aI (chn E))),(8,pg u),(10,.slice i j k),(24,.agg #[.slice i j k,.slice m o p]),(25,.int .i64 1),(26,.bool true),(27,.slice i j k),(28,pg g),(29,.slice i j k),(30,pg x),(31,.int .i64 13),(32,.int .u64 13),(33,H),(35,.int .i64 1)] (by kernel_rfl) (ab (af (t 26 (.bool true) (ae (aa (ab (aO (aJ (aa (ab (bp (ab (af (tr 27 (.slice m o p) (cS (.agg #[.slice i j k,.slice m o p]) (.int .i64 1) (.slice m o p) Di) (t 10 (.slice m o p) (ae (aa (af (t 28 (pg g) (t 29 (.slice m o p) (t 30 (pg x) (tl 31 (.int .i64 13) e 0 (tr 32 (.int .u64 13) (jX 13 ⟨by decide,by decide⟩) (tc 33 93 #[.int .u64 13] (fb) ?_))))))))))))))))))))))));rintro _ ac ⟨F,rfl,y,B⟩;refine⟨_,rfl,?_⟩;replace r:=r.keep B;replace A:=A.keep B;replace e:=e.keep B;replace f:=f.keep B;replace d:=d.keep B;replace s:=ay s B;clear B;refine tc 34 33 #[pg g,.slice m o p,F] (qf A.sx s (jL x1 (aI (chn E))) y (Nat.le_trans (eT _) (by decide)) (by omega) (by omega)) ?_
 rintro _ v26 ⟨rfl,K25,S,q,l⟩;refine⟨_,rfl,?_⟩;replace r:=r.op q l;replace b:=opX e b q l;replace e:=b.1;replace b:=b.2;replace a:=opX f a q l;replace f:=a.1;replace a:=a.2;replace c:=opX d c q l;replace d:=c.1;replace c:=c.2;replace s:=A.byu s l;replace y:=A.byu y l;replace A:=A.op S q l;clear S q l;clear s;clear y;refine ae (dm (aa (af (t 35 (.int .i64 2) (t 25 (.int .i64 2) (ae (kK ?_)))))));refine aC [(0,pg g),(4,pg x),(6,.int .u64 0),(7,.int .u64 (aI (chn E))),(8,pg u),(10,.slice m o p),(24,.agg #[.slice i j k,.slice m o p]),(25,.int .i64 2),(26,.bool true),(27,.slice m o p),(28,pg g),(29,.slice m o p),(30,pg x),(31,.int .i64 13),(32,.int .u64 13),(33,F),(35,.int .i64 2)] (by kernel_rfl) (ab (af (t 26 (.bool false) (ae (aa (ab (aV (dM (dC (dC (gp (aa (ab ?_)))))))))))));replace r:=r.drew;replace A:=A.drew;replace e:=e.drew;replace f:=f.drew;replace d:=d.drew;refine bH (fun w'=>Blk w' u [.int .u64 x0,.int .u64 x1,.int .u64 x4] 167) (fun _=>false) d ?_
 refine zlr 0 36 [.int .u64 x0,.int .u64 x1,.int .u64 x4] (fun _ h=>h) 0 (z 1 37 (pg g) (z 2 38 (pg g) (z 3 39 (pg u) (zl 4 40 (.int .u64 x0) (fun _ h=>h) 0 (z 5 41 (pq u 1) (zl 6 42 (.int .u64 x1) (fun _ h=>h) 1 (zc 7 43 24 #[pg g,.int .u64 x0,.int .u64 x1] (ek A.sx I (by omega) (by omega)) ?_)))))));rintro _ v28 ⟨rfl,K27,S,q,l⟩;replace r:=r.op q l;replace b:=opX e b q l;replace e:=b.1;replace b:=b.2;replace a:=opX f a q l;replace f:=a.1;replace a:=a.2;replace c:=opX d c q l;replace d:=c.1;replace c:=c.2;replace A:=A.op S q l;clear S q l;refine⟨_,rfl,d,?_⟩;refine zq 8 44 (.int .u64 (IntKind.u64.wrap (dr (put (put (put (dD E) (Ky.mk 13 (aI (chn E)) 0) (mv x0 x1 x2 x3 x4 x5 x6)) (Ky.mk 14 x4 (aI (chn E))) (nv 13)) (Ky.mk 15 x1 (aI (chn E))) (nv 13)) x0 x1+1))) (.int .u64 ((dr (put (put (put (dD E) (Ky.mk 13 (aI (chn E)) 0) (mv x0 x1 x2 x3 x4 x5 x6)) (Ky.mk 14 x4 (aI (chn E))) (nv 13)) (Ky.mk 15 x1 (aI (chn E))) (nv 13)) x0 x1+1) % 18446744073709551616)) (congrArg (Value.int .u64) (IntKind.wrap_u64 _)) (zc 9 45 94 #[.agg #[.int .u64 x0,.int .u64 x1,.int .u64 x4],pg g,.int .u64 ((dr (put (put (put (dD E) (Ky.mk 13 (aI (chn E)) 0) (mv x0 x1 x2 x3 x4 x5 x6)) (Ky.mk 14 x4 (aI (chn E))) (nv 13)) (Ky.mk 15 x1 (aI (chn E))) (nv 13)) x0 x1+1) % 18446744073709551616)] (count_set A.sx I (by omega) (by omega)) ?_);rintro _ v30 ⟨rfl,K29,S,q,l⟩;replace r:=r.op q l;replace b:=opX e b q l;replace e:=b.1;replace b:=b.2;replace a:=opX f a q l;replace f:=a.1;replace a:=a.2;replace c:=opX d c q l;replace d:=c.1;replace c:=c.2;replace A:=A.op S q l;clear S q l;refine⟨_,rfl,d,?_⟩;refine bC (aa (ab (af (t 46 (.int .u64 (aI (chn E))) (t 6 (.int .u64 (aI (chn E))) (ae (aa (aC [(6,.int .u64 (aI (chn E)))] (by kernel_rfl) (aF (aE (.int .u64 (aI (chn E))) (rs1 6 (by kernel_rfl) (by kernel_rfl)) ?_))))))))));exact⟨rfl,_,A.sx,A.km,A.cc⟩
theorem endM(h:Sx B w K g E W n N)(T:0<=id/\id < 18446744073709551616)(hn:n+40<=4000000000000000000)(hN:N+40<=100000000):Calls Tryz.prog 54 #[pg g,.agg #[.int .i64 13,.func (.func 101) #[] #[],.func (.func 102) #[] #[],.func (.func 103) #[] #[]],.int .u64 id] w (SxF B w K g (lX E id) W n N (.bool (Kv.look E (Ky.mk 13 id 0)).isSome)):=by
 have A:=h.at
 refine aB (n:=51) Tryz.func54 rfl (by kernel_rfl) (by kernel_rfl) ?_
 refine ab (af (ta 4 [.int .i64 13,.func (.func 101) #[] #[],.func (.func 102) #[] #[],.func (.func 103) #[] #[]] 114 (pg) ?_));intro v1 U c aj B;have zg2:=Nat.le_trans A.size aj;have a:=A.new aj;replace A:=A.keep B;clear B;refine t 6 (.bool false) (ae (aa (ab (af (t 13 (pg g) (tlr 14 [.int .i64 13,.func (.func 101) #[] #[],.func (.func 102) #[] #[],.func (.func 103) #[] #[]] c 0 (t 15 (.int .u64 id) ?_)))))));by_cases V:(Kv.look E (Ky.mk 13 id 0)).isSome=true
 ·refine tc 16 67 #[pg g,.agg #[.int .i64 13,.func (.func 101) #[] #[],.func (.func 102) #[] #[],.func (.func 103) #[] #[]],.int .u64 id] (qh A.sx T (by omega) (by omega) V) ?_
  rintro _ v6 ⟨F,v,G,rfl,ag,K4,S,k,j,i,mr5,hzr5⟩;refine⟨_,rfl,?_⟩;have al:=c.lt;have sr5:=A.size;replace a:=opX c a k j;replace c:=a.1;replace a:=a.2;replace A:=A.op S k j;clear S k j;refine t 12 (.tuple #[.agg (mA (got E (Ky.mk 13 id 0)) (.slice F v G)),.bool true]) (t 17 (.agg (mA (got E (Ky.mk 13 id 0)) (.slice F v G))) (t 18 (.bool true) ?_));have P:=c.lt;have ah:=i.lt;refine ta 7 [.int .u64 0,.int .u64 0,.int .u64 0,.int .u64 0,.int .u64 0,.int .u64 0,.slice none 0 0] 48 (pg) ?_
  intro v7 g8 f ak B;have zg8:=Nat.le_trans A.size ak;have d:=A.new ak;replace A:=A.keep B;replace c:=c.keep B;replace i:=i.keep B;clear B;refine ts f 0 (.agg (mA (got E (Ky.mk 13 id 0)) (.slice F v G))) (mL (got E (Ky.mk 13 id 0)) (.slice F v G)) (mL (got E (Ky.mk 13 id 0)) (.slice F v G)) ?_
  intro v9 Y C;replace A:=Bk.At.cell A f C zg8 d (by decide);replace c:=c.chg C (show U≠g8 by omega);replace i:=i.cell C (show v=0\/ag≠g8 by omega);clear C f;have f:=Y;clear Y;refine t 8 (.bool true) (ae (aa (aC [(0,pg g),(2,.int .u64 id),(4,pg U),(6,.bool false),(7,pg g8),(8,.bool true)] (by kernel_rfl) (ab (ab (af (t 19 (.bool true) (t 20 (.bool false) (ae (aa (aV (aJ (aa (ab (af (t 21 (pg g) (t 22 (pg U) (tl 23 (.int .i64 13) c 0 (t 24 (.int .u64 id) (tc 25 64 #[.int .i64 13,.int .u64 id,.int .u64 0] (oe T (gL id)) ?_))))))))))))))))))));rintro _ v12 ⟨Z,rfl,J,B⟩;refine⟨_,rfl,?_⟩;replace A:=A.keep B;replace c:=c.keep B;replace i:=i.keep B;replace f:=f.keep B;clear B;refine tc 26 107 #[pg g,Z] (sV A.sx J (Nat.le_trans (Ky.bZ _ _ _) (by decide)) (by omega) (by omega)) ?_
  rintro _ v14 ⟨rfl,K13,S,k,j⟩;refine⟨_,rfl,?_⟩;replace i:=i.op k j;replace a:=opX c a k j;replace c:=a.1;replace a:=a.2;replace d:=opX f d k j;replace f:=d.1;replace d:=d.2;replace J:=A.byu J j;replace A:=A.op S k j;clear S k j;clear J;refine ae (aa (ab (af (t 27 (pq U 3) (tl 28 (.func (.func 103) #[] #[]) c 3 (tlr 29 (mL (got E (Ky.mk 13 id 0)) (.slice F v G)) f 0 (tc 30 103 #[.agg (mA (got E (Ky.mk 13 id 0)) (.slice F v G))] (yx) ?_)))))));rintro _ v15 ⟨rfl,B⟩;refine⟨_,rfl,?_⟩;replace A:=A.keep B;replace c:=c.keep B;replace i:=i.keep B;replace f:=f.keep B;clear B;have P:=c.lt;have ah:=i.lt;have lXg8:=f.lt;refine ta 9 [.int .u64 0,.int .u64 0,.int .u64 0] 167 (pg) ?_
  intro v16 u e O B;have X:=Nat.le_trans A.size O;have b:=A.new O;replace A:=A.keep B;replace c:=c.keep B;replace i:=i.keep B;replace f:=f.keep B;clear B;refine ts e 0 (.agg #[.int .u64 (mX (got E (Ky.mk 13 id 0)) 0),.int .u64 (mX (got E (Ky.mk 13 id 0)) 1),.int .u64 (mX (got E (Ky.mk 13 id 0)) 4)]) [.int .u64 (mX (got E (Ky.mk 13 id 0)) 0),.int .u64 (mX (got E (Ky.mk 13 id 0)) 1),.int .u64 (mX (got E (Ky.mk 13 id 0)) 4)] [.int .u64 (mX (got E (Ky.mk 13 id 0)) 0),.int .u64 (mX (got E (Ky.mk 13 id 0)) 1),.int .u64 (mX (got E (Ky.mk 13 id 0)) 4)] ?_
  intro v18 Y C;replace A:=Bk.At.cell A e C X b (by decide);replace c:=c.chg C (show U≠u by omega);replace i:=i.cell C (show v=0\/ag≠u by omega);replace f:=f.chg C (show g8≠u by omega);clear C e;have e:=Y;clear Y;refine ae (aa (aC [(0,pg g),(2,.int .u64 id),(6,.bool false),(9,pg u)] (by kernel_rfl) (ab (ab (af (tlr 31 [.int .u64 (mX (got E (Ky.mk 13 id 0)) 0),.int .u64 (mX (got E (Ky.mk 13 id 0)) 1),.int .u64 (mX (got E (Ky.mk 13 id 0)) 4)] e 0 (t 32 (.int .u64 id) (tc 33 92 #[.agg #[.int .u64 (mX (got E (Ky.mk 13 id 0)) 0),.int .u64 (mX (got E (Ky.mk 13 id 0)) 1),.int .u64 (mX (got E (Ky.mk 13 id 0)) 4)],.int .u64 id] (ia (dY (h.oct _) 1) (dY (h.oct _) 4)) ?_))))))));rintro _ v22 ⟨m,r,o,p,l,q,rfl,L,I,B⟩;refine⟨_,rfl,?_⟩;replace A:=A.keep B;replace c:=c.keep B;replace i:=i.keep B;replace f:=f.keep B;replace e:=e.keep B;clear B;refine t 34 (.int .i64 0) (ae (aa (bp (pB 2 ?_))));refine ab (af (t 35 (.bool true) (ae (aa (ab (aO (aJ (aa (ab (bp (ab (af (tr 36 (.slice m r o) (cS (.agg #[.slice m r o,.slice p l q]) (.int .i64 0) (.slice m r o) CH) (t 11 (.slice m r o) (ae (aa (af (t 37 (pg g) (t 38 (.slice m r o) (tc 39 107 #[pg g,.slice m r o] (sV A.sx L (Nat.le_trans (Ky.bZ _ _ _) (by decide)) (by omega) (by omega)) ?_))))))))))))))))))));rintro _ v24 ⟨rfl,K23,S,k,j⟩;refine⟨_,rfl,?_⟩;replace i:=i.op k j;replace a:=opX c a k j;replace c:=a.1;replace a:=a.2;replace d:=opX f d k j;replace f:=d.1;replace d:=d.2;replace b:=opX e b k j;replace e:=b.1;replace b:=b.2;replace L:=A.byu L j;replace I:=A.byu I j;replace A:=A.op S k j;clear S k j;clear L;refine ae (dm (aa (af (t 40 (.int .i64 1) (t 34 (.int .i64 1) (ae (kK ?_)))))));refine aC [(0,pg g),(6,.bool false),(9,pg u),(11,.slice m r o),(33,.agg #[.slice m r o,.slice p l q]),(34,.int .i64 1),(35,.bool true),(36,.slice m r o),(37,pg g),(38,.slice m r o),(40,.int .i64 1)] (by kernel_rfl) (ab (af (t 35 (.bool true) (ae (aa (ab (aO (aJ (aa (ab (bp (ab (af (tr 36 (.slice p l q) (cS (.agg #[.slice m r o,.slice p l q]) (.int .i64 1) (.slice p l q) Di) (t 11 (.slice p l q) (ae (aa (af (t 37 (pg g) (t 38 (.slice p l q) (tc 39 107 #[pg g,.slice p l q] (sV A.sx I (Nat.le_trans (Ky.bZ _ _ _) (by decide)) (by omega) (by omega)) ?_)))))))))))))))))))));rintro _ v26 ⟨rfl,K25,S,k,j⟩;refine⟨_,rfl,?_⟩;replace i:=i.op k j;replace a:=opX c a k j;replace c:=a.1;replace a:=a.2;replace d:=opX f d k j;replace f:=d.1;replace d:=d.2;replace b:=opX e b k j;replace e:=b.1;replace b:=b.2;replace I:=A.byu I j;replace A:=A.op S k j;clear S k j;clear I;refine ae (dm (aa (af (t 40 (.int .i64 2) (t 34 (.int .i64 2) (ae (kK ?_)))))));refine aC [(0,pg g),(6,.bool false),(9,pg u),(11,.slice p l q),(33,.agg #[.slice m r o,.slice p l q]),(34,.int .i64 2),(35,.bool true),(36,.slice p l q),(37,pg g),(38,.slice p l q),(40,.int .i64 2)] (by kernel_rfl) (ab (af (t 35 (.bool false) (ae (aa (ab (aV (dM (dC (dC (gp (aa (ab ?_)))))))))))));replace A:=A.drew;replace c:=c.drew;replace i:=i.drew;replace f:=f.drew;replace e:=e.drew;refine bH (fun w'=>Blk w' u [.int .u64 (mX (got E (Ky.mk 13 id 0)) 0),.int .u64 (mX (got E (Ky.mk 13 id 0)) 1),.int .u64 (mX (got E (Ky.mk 13 id 0)) 4)] 167) (fun _=>false) e ?_
  refine zlr 0 41 [.int .u64 (mX (got E (Ky.mk 13 id 0)) 0),.int .u64 (mX (got E (Ky.mk 13 id 0)) 1),.int .u64 (mX (got E (Ky.mk 13 id 0)) 4)] (fun _ h=>h) 0 (z 1 42 (pg g) (z 2 43 (pg g) (z 3 44 (pg u) (zl 4 45 (.int .u64 (mX (got E (Ky.mk 13 id 0)) 0)) (fun _ h=>h) 0 (z 5 46 (pq u 1) (zl 6 47 (.int .u64 (mX (got E (Ky.mk 13 id 0)) 1)) (fun _ h=>h) 1 (zc 7 48 24 #[pg g,.int .u64 (mX (got E (Ky.mk 13 id 0)) 0),.int .u64 (mX (got E (Ky.mk 13 id 0)) 1)] (ek A.sx (dY (h.oct _) 0) (by omega) (by omega)) ?_)))))));rintro _ v28 ⟨rfl,K27,S,k,j⟩;replace i:=i.op k j;replace a:=opX c a k j;replace c:=a.1;replace a:=a.2;replace d:=opX f d k j;replace f:=d.1;replace d:=d.2;replace b:=opX e b k j;replace e:=b.1;replace b:=b.2;replace A:=A.op S k j;clear S k j;refine⟨_,rfl,e,?_⟩;refine zq 8 49 (.int .u64 (IntKind.u64.wrap (dr (rem (rem (rem E (Ky.mk 13 id 0)) (Ky.mk 14 (mX (got E (Ky.mk 13 id 0)) 4) id)) (Ky.mk 15 (mX (got E (Ky.mk 13 id 0)) 1) id)) (mX (got E (Ky.mk 13 id 0)) 0) (mX (got E (Ky.mk 13 id 0)) 1) - 1))) (.int .u64 ((dr (rem (rem (rem E (Ky.mk 13 id 0)) (Ky.mk 14 (mX (got E (Ky.mk 13 id 0)) 4) id)) (Ky.mk 15 (mX (got E (Ky.mk 13 id 0)) 1) id)) (mX (got E (Ky.mk 13 id 0)) 0) (mX (got E (Ky.mk 13 id 0)) 1) - 1) % 18446744073709551616)) (congrArg (Value.int .u64) (IntKind.wrap_u64 _)) (zc 9 50 94 #[.agg #[.int .u64 (mX (got E (Ky.mk 13 id 0)) 0),.int .u64 (mX (got E (Ky.mk 13 id 0)) 1),.int .u64 (mX (got E (Ky.mk 13 id 0)) 4)],pg g,.int .u64 ((dr (rem (rem (rem E (Ky.mk 13 id 0)) (Ky.mk 14 (mX (got E (Ky.mk 13 id 0)) 4) id)) (Ky.mk 15 (mX (got E (Ky.mk 13 id 0)) 1) id)) (mX (got E (Ky.mk 13 id 0)) 0) (mX (got E (Ky.mk 13 id 0)) 1) - 1) % 18446744073709551616)] (count_set A.sx (dY (h.oct _) 0) (by omega) (by omega)) ?_);rintro _ v30 ⟨rfl,K29,S,k,j⟩;replace i:=i.op k j;replace a:=opX c a k j;replace c:=a.1;replace a:=a.2;replace d:=opX f d k j;replace f:=d.1;replace d:=d.2;replace b:=opX e b k j;replace e:=b.1;replace b:=b.2;replace A:=A.op S k j;clear S k j;refine⟨_,rfl,e,?_⟩;refine bC (aa (ab (af (t 6 (.bool true) (ae (aa (aC [(6,.bool true)] (by kernel_rfl) (aF (aE (.bool true) (rs1 6 (by kernel_rfl) (by kernel_rfl)) ?_)))))))));rw[show lX E id=_ from if_pos V,show (Kv.look E (Ky.mk 13 id 0)).isSome=true from V];exact⟨rfl,_,_,_,A.sx,by omega,by omega,A.km,A.cc⟩
 ·refine tc 16 67 #[pg g,.agg #[.int .i64 13,.func (.func 101) #[] #[],.func (.func 102) #[] #[],.func (.func 103) #[] #[]],.int .u64 id] (qh A.sx T (by omega) (by omega) (Bool.eq_false_iff.2 V)) ?_
  rintro _ v33 ⟨y,s,D,rfl,ai,K31,S,k,j,x,mr32,hzr32⟩;refine⟨_,rfl,?_⟩;have ad:=c.lt;have sr32:=A.size;replace a:=opX c a k j;replace c:=a.1;replace a:=a.2;replace A:=A.op S k j;clear S k j;refine t 12 (.tuple #[.agg (mA (got E (Ky.mk 13 id 0)) (.slice y s D)),.bool false]) (t 17 (.agg (mA (got E (Ky.mk 13 id 0)) (.slice y s D))) (t 18 (.bool false) ?_));have P:=c.lt;have lQr32:=x.lt;refine ta 7 [.int .u64 0,.int .u64 0,.int .u64 0,.int .u64 0,.int .u64 0,.int .u64 0,.slice none 0 0] 48 (pg) ?_
  intro v34 R H M B;have ac:=Nat.le_trans A.size M;have Q:=A.new M;replace A:=A.keep B;replace c:=c.keep B;replace x:=x.keep B;clear B;refine ts H 0 (.agg (mA (got E (Ky.mk 13 id 0)) (.slice y s D))) (mL (got E (Ky.mk 13 id 0)) (.slice y s D)) (mL (got E (Ky.mk 13 id 0)) (.slice y s D)) ?_
  intro v36 Y C;replace A:=Bk.At.cell A H C ac Q (by decide);replace c:=c.chg C (show U≠R by omega);replace x:=x.cell C (show s=0\/ai≠R by omega);clear C H;have H:=Y;clear Y;refine t 8 (.bool false) (ae (aa (aC [(0,pg g),(2,.int .u64 id),(4,pg U),(6,.bool false),(7,pg R),(8,.bool false)] (by kernel_rfl) (ab (ab (af (t 19 (.bool false) (t 20 (.bool true) (ae (aa (aO (ab (af (t 6 (.bool false) (ae (aa (aF (dn (aE (.bool false) (rs1 6 (by kernel_rfl) (by kernel_rfl)) ?_)))))))))))))))))));rw[show lX E id=_ from if_neg V,show (Kv.look E (Ky.mk 13 id 0)).isSome=false from Bool.eq_false_iff.2 V];exact⟨rfl,_,_,_,A.sx,by omega,by omega,A.km,A.cc⟩
theorem fewer1{r:Nat}(a:q≠r)(X:Blk w r [.int .u64 x0,.int .u64 x1,.int .u64 x2,.int .u64 x3,.int .u64 x4,.int .u64 x5,.slice a6 n6 c6] 48)(c:Blk w q [.slice a7 n7 c7] 46):Calls Tryz.prog 51 #[pg r,pg q] w fun e w'=>e=.returned (.tuple #[])/\Blk w' r [.int .u64 x0,.int .u64 x1,.int .u64 x2,.int .u64 x3,.int .u64 x4,.int .u64 x5,.slice a7 n7 c7] 48/\Chg (· = r) w w':=by
 have b:Chg (·=r) w w:=Chg.refl _ _;refine aB (n:=7) Tryz.func51 rfl (by kernel_rfl) (by kernel_rfl) ?_
 refine af (t 3 (pg r) (tlr 4 [.slice a7 n7 c7] c 0 (t 5 (pg r) (t 6 (pq r 6) (ts X 6 (.agg #[.slice a7 n7 c7]) [.slice a7 n7 c7] [.int .u64 x0,.int .u64 x1,.int .u64 x2,.int .u64 x3,.int .u64 x4,.int .u64 x5,.slice a7 n7 c7] ?_)))));intro v1 Y C;replace c:=c.chg C a;replace b:=b.trans C (fun _ _ h=>h);clear C X;have X:=Y;clear Y;refine ae (j1 (.tuple #[]) (rs0 (by kernel_rfl)) ?_);exact⟨rfl,X,b⟩
theorem DB{y:Int}{z7:Nat}(h:Sx B w K g E W n N)(H:0<=id/\id < 18446744073709551616)(d:Blk w q [.slice a7 n7 c7] 46)(c:¬ K q)(f:Nk w K z7 a7 n7 c7 y)(m7:n7<=1000000)(hn:n+40<=4000000000000000000)(hN:N+40<=100000000):Calls Tryz.prog 50 #[pg g,.agg #[.int .i64 13,.func (.func 101) #[] #[],.func (.func 102) #[] #[],.func (.func 103) #[] #[]],.int .u64 id,.func (.func 51) #[] #[pg q]] w (SxF B w K g (ni E id y) W n N (.bool (Kv.look E (Ky.mk 13 id 0)).isSome)):=by
 have G:=d.lt;have l0:=f.lt;have A:=h.at
 refine aB (n:=27) Tryz.func50 rfl (by kernel_rfl) (by kernel_rfl) ?_
 refine ab (af ?_);have G:=d.lt;have U:=f.lt;refine ta 5 [.int .i64 13,.func (.func 101) #[] #[],.func (.func 102) #[] #[],.func (.func 103) #[] #[]] 114 (pg) ?_
 intro v1 R b V B;have zg2:=Nat.le_trans A.size V;have a:=A.new V;replace d:=d.keep B;replace f:=f.keep B;replace A:=A.keep B;clear B;refine t 8 (.bool false) (ae (aa (ab (af (t 12 (pg g) (tlr 13 [.int .i64 13,.func (.func 101) #[] #[],.func (.func 102) #[] #[],.func (.func 103) #[] #[]] b 0 (t 14 (.int .u64 id) ?_)))))));by_cases J:(Kv.look E (Ky.mk 13 id 0)).isSome=true
 ·refine tc 15 67 #[pg g,.agg #[.int .i64 13,.func (.func 101) #[] #[],.func (.func 102) #[] #[],.func (.func 103) #[] #[]],.int .u64 id] (qh A.sx H (by omega) (by omega) J) ?_
  rintro _ v6 ⟨x,s,z,rfl,O,K4,S,m,l,k,mr5,hzr5⟩;refine⟨_,rfl,?_⟩;have kXqr5:=d.lt;have ac:=b.lt;have sr5:=A.size;replace f:=f.op m l;replace c:=opX d c m l;replace d:=c.1;replace c:=c.2;replace a:=opX b a m l;replace b:=a.1;replace a:=a.2;replace A:=A.op S m l;clear S m l;refine t 11 (.tuple #[.agg (mA (got E (Ky.mk 13 id 0)) (.slice x s z)),.bool true]) (t 16 (.agg (mA (got E (Ky.mk 13 id 0)) (.slice x s z))) (t 17 (.bool true) ?_));have G:=d.lt;have U:=f.lt;have T:=b.lt;have lQr5:=k.lt;refine ta 9 [.int .u64 0,.int .u64 0,.int .u64 0,.int .u64 0,.int .u64 0,.int .u64 0,.slice none 0 0] 48 (pg) ?_
  intro v7 D e X B;have Q:=Nat.le_trans A.size X;have i:=A.new X;replace d:=d.keep B;replace f:=f.keep B;replace A:=A.keep B;replace b:=b.keep B;replace k:=k.keep B;clear B;refine ts e 0 (.agg (mA (got E (Ky.mk 13 id 0)) (.slice x s z))) (mL (got E (Ky.mk 13 id 0)) (.slice x s z)) (mL (got E (Ky.mk 13 id 0)) (.slice x s z)) ?_
  intro v9 Y C;replace d:=d.chg C (show q≠D by omega);replace f:=f.cell C (show n7=0\/z7≠D by omega);replace A:=Bk.At.cell A e C Q i (by decide);replace b:=b.chg C (show R≠D by omega);replace k:=k.cell C (show s=0\/O≠D by omega);clear C e;have e:=Y;clear Y;refine t 10 (.bool true) (ae (aa (aC [(0,pg g),(2,.int .u64 id),(3,.func (.func 51) #[] #[pg q]),(5,pg R),(8,.bool false),(9,pg D),(10,.bool true)] (by kernel_rfl) (ab (ab (af (t 18 (.bool true) (ae (aa (aO (ab (af (t 19 (.func (.func 51) #[] #[pg q]) (tc 20 51 #[pg D,pg q] (fewer1 (show q≠D by omega) e d) ?_))))))))))))));rintro _ v10 ⟨rfl,Z,C⟩;refine⟨_,rfl,?_⟩;replace d:=d.chg C (show q≠D by omega);replace f:=f.cell C (show n7=0\/z7≠D by omega);replace A:=Bk.At.cell A e C Q i (by decide);replace b:=b.chg C (show R≠D by omega);replace k:=k.cell C (show s=0\/O≠D by omega);clear C;clear e;have e:=Z;clear Z;refine ae (aa (af (t 21 (pg g) (tlr 22 [.int .i64 13,.func (.func 101) #[] #[],.func (.func 102) #[] #[],.func (.func 103) #[] #[]] b 0 (t 23 (.int .u64 id) (tlr 24 (mL (got E (Ky.mk 13 id 0)) (.slice a7 n7 c7)) e 0 (tc 25 100 #[pg g,.agg #[.int .i64 13,.func (.func 101) #[] #[],.func (.func 102) #[] #[],.func (.func 103) #[] #[]],.int .u64 id,.agg (mA (got E (Ky.mk 13 id 0)) (.slice a7 n7 c7))] (layM A.sx H f m7 (by omega) (by omega)) ?_)))))));rintro _ v12 ⟨rfl,K11,S,m,l⟩;refine⟨_,rfl,?_⟩;replace f:=f.op m l;replace k:=k.op m l;replace c:=opX d c m l;replace d:=c.1;replace c:=c.2;replace a:=opX b a m l;replace b:=a.1;replace a:=a.2;replace i:=opX e i m l;replace e:=i.1;replace i:=i.2;replace A:=A.op S m l;clear S m l;refine ae (aa (ab (af (t 26 (.bool true) (t 8 (.bool true) (ae (aa (aF (aE (.bool true) (rs1 8 (by kernel_rfl) (by kernel_rfl)) ?_)))))))));rw[show ni E id y=_ from if_pos J,show (Kv.look E (Ky.mk 13 id 0)).isSome=true from J];exact⟨rfl,_,_,_,A.sx,by omega,by omega,A.km,A.cc⟩
 ·refine tc 15 67 #[pg g,.agg #[.int .i64 13,.func (.func 101) #[] #[],.func (.func 102) #[] #[],.func (.func 103) #[] #[]],.int .u64 id] (qh A.sx H (by omega) (by omega) (Bool.eq_false_iff.2 J)) ?_
  rintro _ v15 ⟨p,j,o,rfl,M,K13,S,m,l,r,mr14,hzr14⟩;refine⟨_,rfl,?_⟩;have kXqr14:=d.lt;have P:=b.lt;have sr14:=A.size;replace f:=f.op m l;replace c:=opX d c m l;replace d:=c.1;replace c:=c.2;replace a:=opX b a m l;replace b:=a.1;replace a:=a.2;replace A:=A.op S m l;clear S m l;refine t 11 (.tuple #[.agg (mA (got E (Ky.mk 13 id 0)) (.slice p j o)),.bool false]) (t 16 (.agg (mA (got E (Ky.mk 13 id 0)) (.slice p j o))) (t 17 (.bool false) ?_));have G:=d.lt;have U:=f.lt;have T:=b.lt;have lQr14:=r.lt;refine ta 9 [.int .u64 0,.int .u64 0,.int .u64 0,.int .u64 0,.int .u64 0,.int .u64 0,.slice none 0 0] 48 (pg) ?_
  intro v16 v u F B;have L:=Nat.le_trans A.size F;have I:=A.new F;replace d:=d.keep B;replace f:=f.keep B;replace A:=A.keep B;replace b:=b.keep B;replace r:=r.keep B;clear B;refine ts u 0 (.agg (mA (got E (Ky.mk 13 id 0)) (.slice p j o))) (mL (got E (Ky.mk 13 id 0)) (.slice p j o)) (mL (got E (Ky.mk 13 id 0)) (.slice p j o)) ?_
  intro v18 Y C;replace d:=d.chg C (show q≠v by omega);replace f:=f.cell C (show n7=0\/z7≠v by omega);replace A:=Bk.At.cell A u C L I (by decide);replace b:=b.chg C (show R≠v by omega);replace r:=r.cell C (show j=0\/M≠v by omega);clear C u;have u:=Y;clear Y;refine t 10 (.bool false) (ae (aa (aC [(0,pg g),(2,.int .u64 id),(3,.func (.func 51) #[] #[pg q]),(5,pg R),(8,.bool false),(9,pg v),(10,.bool false)] (by kernel_rfl) (ab (ab (af (t 18 (.bool false) (ae (aa (aV (aJ (aa (ab (af (t 26 (.bool false) (t 8 (.bool false) (ae (aa (aF (aE (.bool false) (rs1 8 (by kernel_rfl) (by kernel_rfl)) ?_))))))))))))))))))));rw[show ni E id y=_ from if_neg J,show (Kv.look E (Ky.mk 13 id 0)).isSome=false from Bool.eq_false_iff.2 J];exact⟨rfl,_,_,_,A.sx,by omega,by omega,A.km,A.cc⟩
end
end Qu
end
section
namespace Qu
open Go.RowKit Go.Lib Pg Lim Gl Kv Bk Pw
attribute [local go_sem] Oper.semAt_some
set_option linter.unusedVariables false
set_option linter.unusedSimpArgs false
section
variable {B g n N:Nat}{w:World}{K:Nat->Prop}{E:ax}{W:List ax}{a6 a7:Option Addr}{id:Int}
theorem r8{x0 x1 x2 x3 x4 x5 x6:Int}{n6 c6 q:Nat}(h:Sx B w K g E W n N)(j:0<=x0/\x0 < 18446744073709551616)(k:0<=x1/\x1 < 18446744073709551616)(i:0<=x4/\x4 < 18446744073709551616)(c:Nk w K q a6 n6 c6 x6)(l:n6<=1000000)(hn:n+50<=4000000000000000000)(x:N+50<=100000000):Calls Tryz.prog 13 #[pg g,.agg #[.int .u64 x0,.int .u64 x1,.int .u64 x2,.int .u64 x3,.int .u64 x4,.int .u64 x5,.slice a6 n6 c6]] w (SxE B w K g (eU E 13 (mv x0 x1 x2 x3 x4 x5 x6) x0 x1 x4) W (n+7) (N+10) (.int .u64 (aI (chn E)))):=by
 have A:=h.at
 refine aB (n:=9) Tryz.func13 rfl (by kernel_rfl) (by kernel_rfl) ?_
 have s:=c.lt;refine ab (af (ta 3 [.int .u64 x0,.int .u64 x1,.int .u64 x2,.int .u64 x3,.int .u64 x4,.int .u64 x5,.slice a6 n6 c6] 48 (pg) ?_));intro v1 o a d B;have p:=Nat.le_trans A.size d;have b:=A.new d;replace c:=c.keep B;replace A:=A.keep B;clear B;refine t 4 (.int .u64 0) (ae (aa (ab ?_)));replace c:=c.drew;replace A:=A.drew;replace a:=a.drew;refine bH (fun m=>Blk m o [.int .u64 x0,.int .u64 x1,.int .u64 x2,.int .u64 x3,.int .u64 x4,.int .u64 x5,.slice a6 n6 c6] 48) (fun _=>false) a ?_
 refine z 0 5 (pg g) (zlr 2 7 [.int .u64 x0,.int .u64 x1,.int .u64 x2,.int .u64 x3,.int .u64 x4,.int .u64 x5,.slice a6 n6 c6] (fun _ h=>h) 0 (zc 1 6 45 #[] (iu) ?_));rintro _ u ⟨rfl,B⟩;replace c:=c.keep B;replace A:=A.keep B;replace a:=a.keep B;clear B;refine⟨_,rfl,a,?_⟩;refine zc 3 8 44 #[pg g,.agg #[.int .i64 13,.func (.func 101) #[] #[],.func (.func 102) #[] #[],.func (.func 103) #[] #[]],.agg #[.int .u64 x0,.int .u64 x1,.int .u64 x2,.int .u64 x3,.int .u64 x4,.int .u64 x5,.slice a6 n6 c6]] (beginM A.sx j k i c l (by omega) (by omega)) ?_
 rintro _ v ⟨rfl,r,S,f,e⟩;replace c:=c.op f e;replace b:=opX a b f e;replace a:=b.1;replace b:=b.2;replace A:=A.op S f e;clear S f e;refine⟨_,rfl,a,?_⟩;refine z 4 4 (.int .u64 (aI (chn E))) (bC (aa (aF (aE (.int .u64 (aI (chn E))) (rs1 4 (by kernel_rfl) (by kernel_rfl)) ?_))));exact⟨rfl,_,A.sx,A.km,A.cc⟩
theorem mH(h:Sx B w K g E W n N)(l:0<=id/\id < 18446744073709551616)(hn:n+50<=4000000000000000000)(z:N+50<=100000000):Calls Tryz.prog 26 #[pg g,.int .u64 id] w (wN B w K g E W (n+1) N (got E (Ky.mk 13 id 0)) (Kv.look E (Ky.mk 13 id 0)).isSome):=by
 have A:=h.at
 refine aB (n:=12) Tryz.func26 rfl (by kernel_rfl) (by kernel_rfl) ?_
 refine ab (af (ta 4 [.int .u64 0,.int .u64 0,.int .u64 0,.int .u64 0,.int .u64 0,.int .u64 0,.slice none 0 0] 48 (pg) ?_));intro v1 u a i B;have p:=Nat.le_trans A.size i;have b:=A.new i;replace A:=A.keep B;clear B;refine t 5 (.bool false) (ae (aa (ab (af (t 6 (pg g) (tc 7 45 #[] (iu) ?_))))));rintro _ y ⟨rfl,B⟩;refine⟨_,rfl,?_⟩;replace A:=A.keep B;replace a:=a.keep B;clear B;refine t 8 (.int .u64 id) (tc 9 67 #[pg g,.agg #[.int .i64 13,.func (.func 101) #[] #[],.func (.func 102) #[] #[],.func (.func 103) #[] #[]],.int .u64 id] (ES A.sx l (by omega) (by omega)) ?_);rintro _ v6 ⟨d,c,e,rfl,k,v,S,o,m,f,q,r⟩;refine⟨_,rfl,?_⟩;have j:=a.lt;have s:=A.size;replace b:=opX a b o m;replace a:=b.1;replace b:=b.2;replace A:=A.op S o m;clear S o m;refine t 10 (.agg (mA (got E (Ky.mk 13 id 0)) (.slice d c e))) (t 11 (.bool (Kv.look E (Ky.mk 13 id 0)).isSome) (ts a 0 (.agg (mA (got E (Ky.mk 13 id 0)) (.slice d c e))) (mL (got E (Ky.mk 13 id 0)) (.slice d c e)) (mL (got E (Ky.mk 13 id 0)) (.slice d c e)) ?_));intro x Y C;replace A:=Bk.At.cell A a C p b (by decide);replace f:=f.cell C (show c=0\/k≠u by omega);clear C a;have a:=Y;clear Y;refine t 5 (.bool (Kv.look E (Ky.mk 13 id 0)).isSome) (ae (aa (aF (aE (.tuple #[.agg (mA (got E (Ky.mk 13 id 0)) (.slice d c e)),.bool (Kv.look E (Ky.mk 13 id 0)).isSome]) (iL 4 5 (T:=48) (by kernel_rfl) (by kernel_rfl) (by kernel_rfl) (lr a 0)) ?_))));exact⟨_,_,_,rfl,_,_,A.sx,A.km,A.cc,f,q,by omega⟩
theorem jZ{y:Int}{n7 c7 k:Nat}(h:Sx B w K g E W n N)(i:0<=id/\id < 18446744073709551616)(c:Nk w K k a7 n7 c7 y)(m:n7<=1000000)(hn:n+50<=4000000000000000000)(x:N+50<=100000000):Calls Tryz.prog 17 #[pg g,.int .u64 id,.agg #[.slice a7 n7 c7]] w (SxF B w K g (ni E id y) W n N (.bool (Kv.look E (Ky.mk 13 id 0)).isSome)):=by
 have v:=c.lt;have A:=h.at
 refine aB (n:=12) Tryz.func17 rfl (by kernel_rfl) (by kernel_rfl) ?_
 refine ab (af (ta 5 [.slice a7 n7 c7] 46 (pg) ?_));intro v1 j b d B;have p:=Nat.le_trans A.size d;have a:=A.new d;replace c:=c.keep B;replace A:=A.keep B;clear B;refine t 6 (.bool false) (ae (aa (ab (af (t 7 (pg g) (tc 8 45 #[] (iu) ?_))))));rintro _ s ⟨rfl,B⟩;refine⟨_,rfl,?_⟩;replace c:=c.keep B;replace A:=A.keep B;replace b:=b.keep B;clear B;refine t 9 (.int .u64 id) (t 10 (.func (.func 51) #[] #[pg j]) (tc 11 50 #[pg g,.agg #[.int .i64 13,.func (.func 101) #[] #[],.func (.func 102) #[] #[],.func (.func 103) #[] #[]],.int .u64 id,.func (.func 51) #[] #[pg j]] (DB A.sx i b a c m (by omega) (by omega)) ?_));rintro _ v6 ⟨rfl,u,r,l,S,q,o,f,e⟩;refine⟨_,rfl,?_⟩;replace c:=c.op f e;replace a:=opX b a f e;replace b:=a.1;replace a:=a.2;replace A:=A.op S f e;clear S f e;refine t 6 (.bool (Kv.look E (Ky.mk 13 id 0)).isSome) (ae (aa (aF (aE (.bool (Kv.look E (Ky.mk 13 id 0)).isSome) (rs1 6 (by kernel_rfl) (by kernel_rfl)) ?_))));exact⟨rfl,_,_,_,A.sx,by omega,by omega,A.km,A.cc⟩
def dI(E:ax)(id k:Int):ax:=if k=12 then mR E id else if k=13 then lX E id else E
def cB(E:ax)(id k:Int):Bool:=if k=12 then (Kv.look E (Ky.mk 12 id 0)).isSome else if k=13 then (Kv.look E (Ky.mk 13 id 0)).isSome else false
theorem mF{k:Int}(h:Sx B w K g E W n N)(i:0<=id/\id < 18446744073709551616)(hn:n+50<=4000000000000000000)(I:N+50<=100000000):Calls Tryz.prog 19 #[pg g,.agg #[.int .u64 id,.int .i64 k]] w (SxF B w K g (dI E id k) W n N (.bool (cB E id k))):=by
 have A:=h.at
 refine aB (n:=21) Tryz.func19 rfl (by kernel_rfl) (by kernel_rfl) ?_
 refine ab (af (ta 3 [.int .u64 id,.int .i64 k] 61 (pg) ?_));intro v1 j a l B;have y:=Nat.le_trans A.size l;have b:=A.new l;replace A:=A.keep B;clear B;refine t 4 (.bool false) (ae (aa (ab (ab (af (t 5 (pq j 1) (tl 6 (.int .i64 k) a 1 (ae (aa (bp (ab (af ?_))))))))))));by_cases c:(k:Int)=12
 ·refine tq 8 (.bool ((k:Int) == 12)) (.bool true) (congrArg Value.bool (beq_iff_eq.2 c)) (t 7 (.bool true) (ae (aa (aO (ab ?_)))));replace A:=A.drew;replace a:=a.drew;refine bH (fun m=>Blk m j [.int .u64 id,.int .i64 k] 61) (fun _=>false) a ?_
  refine z 0 9 (pg g) (z 2 11 (pg j) (zl 3 12 (.int .u64 id) (fun _ h=>h) 0 (zc 1 10 40 #[] (dS) ?_)));rintro _ v4 ⟨rfl,B⟩;replace A:=A.keep B;replace a:=a.keep B;clear B;refine⟨_,rfl,a,?_⟩;refine zc 4 13 53 #[pg g,.agg #[.int .i64 12,.func (.func 95) #[] #[],.func (.func 96) #[] #[],.func (.func 97) #[] #[]],.int .u64 id] (endU A.sx i (by omega) (by omega)) ?_
  rintro _ F ⟨rfl,G,H,C,S,s,u,e,d⟩;replace b:=opX a b e d;replace a:=b.1;replace b:=b.2;replace A:=A.op S e d;clear S e d;refine⟨_,rfl,a,?_⟩;refine z 5 4 (.bool (Kv.look E (Ky.mk 12 id 0)).isSome) (bC (aa (aC [(4,.bool (Kv.look E (Ky.mk 12 id 0)).isSome)] (by kernel_rfl) (aF (jw (dn (aE (.bool (Kv.look E (Ky.mk 12 id 0)).isSome) (rs1 4 (by kernel_rfl) (by kernel_rfl)) ?_)))))))
  have e1:dI E id k=mR E id:=by unfold dI;rw[if_pos c]
  have e2:cB E id k=(Kv.look E (Ky.mk 12 id 0)).isSome:=by unfold cB;rw[if_pos c]
  rw[e1,e2];exact⟨rfl,_,_,_,A.sx,by omega,by omega,A.km,A.cc⟩
 ·refine tq 8 (.bool ((k:Int) == 12)) (.bool false) (congrArg Value.bool (beq_eq_false_iff_ne.2 c)) (t 7 (.bool false) (ae (aa (aV (ab (af ?_))))));by_cases f:(k:Int)=13
  ·refine tq 15 (.bool ((k:Int) == 13)) (.bool true) (congrArg Value.bool (beq_iff_eq.2 f)) (t 14 (.bool true) (ae (aa (aO (ab ?_)))));replace A:=A.drew;replace a:=a.drew;refine bH (fun m=>Blk m j [.int .u64 id,.int .i64 k] 61) (fun _=>false) a ?_
   refine z 0 16 (pg g) (z 2 18 (pg j) (zl 3 19 (.int .u64 id) (fun _ h=>h) 0 (zc 1 17 45 #[] (iu) ?_)));rintro _ D ⟨rfl,B⟩;replace A:=A.keep B;replace a:=a.keep B;clear B;refine⟨_,rfl,a,?_⟩;refine zc 4 20 54 #[pg g,.agg #[.int .i64 13,.func (.func 101) #[] #[],.func (.func 102) #[] #[],.func (.func 103) #[] #[]],.int .u64 id] (endM A.sx i (by omega) (by omega)) ?_
   rintro _ x ⟨rfl,r,v,o,S,q,p,e,d⟩;replace b:=opX a b e d;replace a:=b.1;replace b:=b.2;replace A:=A.op S e d;clear S e d;refine⟨_,rfl,a,?_⟩;refine z 5 4 (.bool (Kv.look E (Ky.mk 13 id 0)).isSome) (bC (aa (aC [(4,.bool (Kv.look E (Ky.mk 13 id 0)).isSome)] (by kernel_rfl) (aF (jw (dn (aE (.bool (Kv.look E (Ky.mk 13 id 0)).isSome) (rs1 4 (by kernel_rfl) (by kernel_rfl)) ?_)))))))
   have e1:dI E id k=lX E id:=by unfold dI;rw[if_neg c,if_pos f]
   have e2:cB E id k=(Kv.look E (Ky.mk 13 id 0)).isSome:=by unfold cB;rw[if_neg c,if_pos f]
   rw[e1,e2];exact⟨rfl,_,_,_,A.sx,by omega,by omega,A.km,A.cc⟩
  ·refine tq 15 (.bool ((k:Int) == 13)) (.bool false) (congrArg Value.bool (beq_eq_false_iff_ne.2 f)) (t 14 (.bool false) (ae (aa (aV (aJ (dm (aa (ab (af (t 4 (.bool false) (ae (aa (aF (aE (.bool false) (rs1 4 (by kernel_rfl) (by kernel_rfl)) ?_))))))))))))))
   have e1:dI E id k=E:=by unfold dI;rw[if_neg c,if_neg f]
   have e2:cB E id k=false:=by unfold cB;rw[if_neg c,if_neg f]
   rw[e1,e2];exact⟨rfl,_,_,_,A.sx,by omega,by omega,A.km,A.cc⟩
end
end Qu
end
section
open Pg (ah aM bR bI)
namespace Kv
open Go.RowKit Go.Lib Pg
attribute [local go_sem] Oper.semAt_some
section
variable {w:World}{K D X:Nat->Prop}{F:Nat→Prop}{g m n N:Nat}{Q:List (List KV)}{jv pv:Value}{T:List Jr}{oj:Option Nat}{L:List Pg}{E:ax}{W:List ax}{p:List Int}
structure BC(Tp:TypeId->Prop)(X:Nat->Prop)(n0:Nat)(w:World)(g:Nat)(EL:List En)(v:Value):Prop where
 ex:∃ bs1 bs2 bw W1,v=.func (.func 173) #[] #[.pointer (some ⟨bs1,0,none⟩),.pointer (some ⟨bs2,0,none⟩)]/\Itr Tp 158 #[.pointer (some ⟨bw,0,none⟩)] EL.length (ArC EL) (fun V=>Chg X W1 V)/\RdC X W1 g bs1 bs2 bw w/\n0<=bs1/\n0<=bs2
 small:∀ e∈EL,e.kl.length<=1000000000/\e.vl.length<=1000000000
theorem xwmG{F V:Nat->Prop}(h:SX w K D F V g m Q jv T oj n N)(c:N<=100000000)(hx:∀ b,X b->b=g\/¬ K b)(d:∀ b,X b->∀ cs,¬ Blk w b cs 5)(a:∀ b,X b->b < w.heap.size):∃ L,Wm w X F D m L/\∀ f t,(wlk (ens L) f t).map En.kl2=Q.flatten.filter (iG f t) :=
 h.wm c (fun b hb hF=>(hx b hb).elim (fun e=>by subst e;exact h.own.qn hF) (fun n=>n (h.own.map b hF))) d a
theorem rZ{Tp:TypeId→Prop}{X:Nat→Prop}{n0:Nat}{w1 w2:World}{D:Nat→Prop}{bw:Nat}{n:Int}{f t:List Int}(i:Blk w g [.pointer (some ⟨m,0,none⟩),jv,.int .i64 n] 85)(l:Wm w X F D m L)(a:Below w.heap.size w w1)(k:Itr Tp 158 #[.pointer (some ⟨bw,0,none⟩)] (wlk (ens L) f t).length (ArC (wlk (ens L) f t)) (fun V=>Chg X w1 V))(c:Blk w2 w1.heap.size [.pointer (some ⟨g,0,none⟩)] 27)(o:Blk w2 (w1.heap.size+1) [.func (.func 158) #[] #[.pointer (some ⟨bw,0,none⟩)]] 133)(b:Below w1.heap.size w1 w2)(h:n0≤w.heap.size) :
    BC Tp X n0 w2 g (wlk (ens L) f t) (.func (.func 173) #[] #[.pointer (some ⟨w1.heap.size,0,none⟩),.pointer (some ⟨w1.heap.size+1,0,none⟩)]) :=
  ⟨⟨_, _, bw, w1, rfl, k, ⟨Chg.of b, c, o, ⟨_, (i.keep a).keep b⟩⟩, Nat.le_trans h a.size, by have := a.size; omega⟩, fun e he => by
    obtain⟨es,j,d⟩:= wA he
    exact l.small es j e d⟩
theorem BO{Tp:TypeId->Prop}(h:SA w K D g E W n N)(hN:N<=100000000)(I:By w pv p)(u:p.length<=1000000)(q:∀ b,X b->b=g\/¬ K b)(s:∀ b,X b->∀ cs,¬ Blk w b cs 5)(r:∀ b,X b->b < w.heap.size)(hT:¬ Tp 131)(y:¬ Tp 211) :
  Calls Tryz.prog 75 #[.pointer (some ⟨g,0,none⟩),pv] w fun e w'=>∃ v EL,e=.returned v/\BC Tp X w.heap.size w' g EL v/\EL.map En.kl2=E.filter (fun x=>decide (p <+: x.1))/\Below w.heap.size w w':=by
 have j:=h.oct;have d:=ai (show (∀ b,X b->b=g\/¬ K b)/\(∀ b,X b->∀ cs,¬ Blk w b cs 5)/\(∀ b,X b->b < w.heap.size) from⟨q,s,r⟩);have t:=ai (show ¬ Tp 131/\¬ Tp 211 from⟨hT,y⟩);clear q s r hT y;obtain⟨F,V,m,Q,jv,T,oj,M,rfl,P⟩:=h.open;obtain⟨H,J,rfl,-⟩:=id I.ex;have f:=mO I.drew (by omega);have hS:=M.blk.drew;have HX:=ai M;have HP:=ai I;have HO:=ai j;have l:=ai u
 have Y:Below w.heap.size w w.drew:=⟨rfl,rfl,rfl,Nat.le_refl _,fun _ _=>rfl⟩
 clear M I h P j u;obtain⟨o,U⟩:∃ o,Hid (p.length=o):=⟨_,rfl⟩
 rw[U.out] at HP f ⊢;go_enter Tryz.func75,Tryz.ntmps75;go_wp2_with fail;refine bI (S:=fun w'=>Blk w' g [.pointer (some ⟨m,0,none⟩),jv,.int .i64 n] 85) (by kernel_rfl) hS ?_
 refine ah 0 (some 5) (.pointer (some ⟨g,0,none⟩)) (by kernel_rfl) (fun _ _=>by kernel_rfl) (fun _ _ _ h=>h) hS ?_
 refine ah 1 (some 6) (.pointer (some ⟨g,0,none⟩)) (by kernel_rfl) (fun _ _=>by kernel_rfl) (fun _ _ _ h=>h) hS ?_
 refine ah 2 (some 7) (.pointer (some ⟨g,0,none⟩)) (by kernel_rfl) (fun _ _=>by kernel_rfl) (fun _ _ _ h=>h) hS ?_
 refine ah 3 (some 8) (.pointer (some ⟨g,0,none⟩)) (by kernel_rfl) (fun _ _=>by kernel_rfl) (fun _ _ _ h=>h) hS ?_
 refine aM 4 (some 9) (.pointer (some ⟨m,0,none⟩)) 76 8 g 0 (by kernel_rfl) (by kernel_rfl) (by kernel_rfl) (fun w' h=>AH (h.cell (i:=0) rfl)) (fun _ _ _ h=>h) hS ?_
 refine ah 5 (some 10) (.slice H o J) (by kernel_rfl) (fun _ _=>by kernel_rfl) (fun _ _ _ h=>h) hS ?_
 refine ah 6 (some 11) (.slice H o J) (by kernel_rfl) (fun _ _=>by kernel_rfl) (fun _ _ _ h=>h) hS ?_
 refine bR 7 (some 12) 124 #[.slice H o J] (by kernel_rfl) (by kernel_rfl) f ?_
 rintro e' w1 ⟨nv,rfl,O1,G⟩;refine⟨_,rfl,hS.keep G,?_⟩
 have c:=aj Y G;replace hS:=hS.keep G;have O:=HX.out.keep c;obtain⟨L,R,hw⟩:=xwmG O hN d.out.1 (fun b hb cs k=>d.out.2.1 b hb cs ⟨by rw[<- c.block b (d.out.2.2 b hb)];exact k.blk⟩) (fun b hb=>Nat.lt_of_lt_of_le (d.out.2.2 b hb) c.size)
 have hnl:(nxt p).length<=p.length:=by
  rcases fk p with h1 | ⟨A,x,B,rfl,hx,P⟩
  ·rw[eP h1];simp
  ·rw[iD hx P];simp
 have tW:=nM (Tp:=Tp) R (HP.out.keep c) O1.by (by have:=l.out;omega) (by have:=l.out;omega) t.out.1 t.out.2
 refine bR 8 (some 13) 62 #[.pointer (some ⟨m,0,none⟩),.slice H o J,nv] (by kernel_rfl) (by kernel_rfl) tW ?_
 rintro e' w2 ⟨bw,rfl,C,IT⟩;refine⟨_,rfl,hS.keep C,?_⟩;replace hS:=hS.keep C;refine bR 9 (some 14) 122 #[.pointer (some ⟨g,0,none⟩),.func (.func 158) #[] #[.pointer (some ⟨bw,0,none⟩)]] (by kernel_rfl) (by kernel_rfl) mW ?_
 rintro e' w3 ⟨rfl,k1,Z,z⟩;refine⟨_,rfl,hS.keep z,?_⟩;replace hS:=hS.keep z;refine ah 10 (some 4) (.func (.func 173) #[] #[.pointer (some ⟨w2.heap.size,0,none⟩),.pointer (some ⟨w2.heap.size+1,0,none⟩)]) (by kernel_rfl) (fun _ _=>by kernel_rfl) (fun _ _ _ h=>h) hS ?_
 refine bh (by kernel_rfl) ?_
 simp only[Act.put,List.setIfInBounds_toArray,List.set_cons_zero,List.set_cons_succ];have FI:=ai (rZ O.blk R C IT k1 Z z c.size);have HW:=ai (hw p (nxt p));have BB:=ai (aj (aj c C) z);clear hS O R hw tW IT k1 Z z C G c O1 Y;go_wp2;go_ret;refine⟨_,_,rfl,FI.out,?_,BB.out⟩;rw[HW.out];exact List.filter_congr (fun x hx=>ze (HO.out x hx))
theorem SA.tick(h:SA w K D g E W n N):SA (tick g w n) K D g E W (n+1) N:=by
 obtain⟨F,V,m,Q,jv,T,oj,hX,hE,hB⟩:=h.open;exact(hX.top (dQ g n w) (hX.blk.setCell (i:=2) _)).shut hE hB
theorem SA.cnt(h:SA w K D g E W n N):w.cell? ⟨g,2,none⟩=some (.int .i64 n)/\w.frozen? ⟨g,2,none⟩=false:=by
 obtain⟨F,V,m,Q,jv,T,oj,hX,hE,hB⟩:=h.open;exact⟨hX.blk.cell (i:=2) rfl,hX.blk.free 2⟩
theorem SA.kv(h:SA w K D g E W n N):∃ cs,Blk w g cs 85:=by
 obtain⟨F,V,m,Q,jv,T,oj,hX,hE,hB⟩:=h.open;exact⟨_,hX.blk⟩
end
end Kv
end
section
namespace Bk
open Go.RowKit Go.Lib Pg Kv
attribute [local go_sem] Oper.semAt_some
section
variable {a:Nat}{w2 V V':World}{cs:List Value}
def RdS(W0:World)(X K D:Nat->Prop)(g:Nat)(E:ax)(Wn:List ax)(N:Nat)(V:World):Prop:=Chg X W0 V/\(∀ b,X b->∀ cs,¬ Blk V b cs 5)/\∃ x,SA V K D g E Wn x N
def Ext(a:Nat)(w2 V:World):Prop:=(∀ b,a<=b->b < w2.heap.size->V.heap[b]?=w2.heap[b]?)/\w2.heap.size<=V.heap.size
theorem Ext.rcd(h:Ext a w2 V)(d:Rec w2.heap.size V V'):Ext a w2 V' :=
 ⟨fun b g c=>by
  have e:=h.1 b g c
  have f:w2.heap[b]?=some w2.heap[b]:=Array.getElem?_eq_getElem c;rw[f] at e ⊢
  exact d.same b _ e (.inl c),Nat.le_trans h.2 d.size⟩
theorem Ext.keep(h:Ext a w2 V)(hb:Below V.heap.size V V'):Ext a w2 V' :=
 ⟨fun b h1 h2=>(hb.block b (Nat.lt_of_lt_of_le h2 h.2)).trans (h.1 b h1 h2),Nat.le_trans h.2 hb.size⟩
theorem Ext.tick{g x:Nat}(h:Ext a w2 V)(hg:g < a):Ext a w2 (tick g V x) :=
 ⟨fun b h1 h2=>(eY (by omega)).trans (h.1 b h1 h2),by rw[eQ];exact h.2⟩
theorem Ext.blk{b:Nat}{t:TypeId}(h:Ext a w2 V)(k:Blk w2 b cs t)(hb:a<=b):Blk V b cs t:=k.same (h.1 b hb k.lt)
end
end Bk
end
section
namespace Kv
open Go.RowKit Go.Lib Pg Bk
attribute [local go_sem] Oper.semAt_some
section
variable {a:Nat}{R V V' w:World}{F:Nat->Prop}{g:Operand}{lb:Array Value}{Ar:Nat→Array Value→Nat→World→Prop}{Rd:World→Prop}{ps:Array Tmp}
structure fg(a:Nat)(R V:World):Prop where
 same:∀ b cs t m,a<=b->R.heap[b]?=some (.cells cs t m)->V.heap[b]?=some (.cells cs t m)
 size:R.heap.size<=V.heap.size
theorem fg.of(h:Ext a R V):fg a R V:=⟨fun b _ _ _ h1 h2=>(h.1 b h1 (lt_of_block h2)).trans h2,h.2⟩
theorem fg.rcd{B:Nat}(h:fg a R V)(hr:Rec B V V'):fg a R V':=⟨fun b cs t m h1 h2=>hr.same b _ (h.same b cs t m h1 h2) (.inr rfl),Nat.le_trans h.size hr.size⟩
theorem fg.keep(h:fg a R V)(hb:Below V.heap.size V V'):fg a R V':=⟨fun b cs t m h1 h2=>(hb.block b (lt_of_block (h.same b cs t m h1 h2))).trans (h.same b cs t m h1 h2),Nat.le_trans h.size hb.size⟩
theorem fg.chg(h:fg a R V)(hc:Chg F V V')(hF:∀ b,F b->b < a\/R.heap.size<=b):fg a R V':=⟨fun b cs t m d c=>(hc.same b (lt_of_block (h.same b cs t m d c)) (fun hf=>by have:=hF b hf;have:=lt_of_block c;omega)).trans (h.same b cs t m d c),Nat.le_trans h.size hc.size⟩
theorem fg.tick{g x:Nat}(h:fg a R V)(hg:g < a):fg a R (tick g V x):=h.chg (dQ g x V) (fun b e=>.inl (by have e':b=g:=e;omega))
theorem Ext.mix{Tp:TypeId->Prop}(h:Ext a R V)(g:bG Tp a V V')(hc:fg a R V'):Ext a R V' :=
 ⟨fun b d f=>by
  have e:=h.1 b d f
  have c:R.heap[b]?=some R.heap[b]:=Array.getElem?_eq_getElem f
  cases ho:R.heap[b] with
  | cells cs t m=>rw[ho] at c;rw[hc.same b cs t m d c,c]
  | _=>rw[ho] at c;rw[c] at e ⊢;exact g.same b _ d e (fun _ _ _ h=>by cases h),hc.size⟩
def ItrE(W0:World)(Tp:TypeId->Prop)(g x0:Nat)(gf:Nat)(lb:Array Value)(N:Nat)(Ar:Nat->Array Value->Nat->World->Prop)(Rd:World->Prop):Prop :=
 ∀ (l:Nat) (J0:World->Prop) (J Jt Jx:World->Nat->World->Prop) (W:World),(∀ b,W0.heap.size<=b->∀ cs,¬ Blk W b cs 5)->W0.heap.size<=W.heap.size->St W.heap.size J0->(∀ R i,St W.heap.size (J R i))->(∀ R i,St W.heap.size (Jt R i))->(∀ R i,St W.heap.size (Jx R i))->g < W.heap.size ->
  (∀ V,J0 V->V.cell? ⟨g,2,none⟩=some (.int .i64 x0)/\V.frozen? ⟨g,2,none⟩=false/\Rd V/\∀ R,W.heap.size<=R.heap.size->fg W.heap.size R V->J R 0 (tick g V x0)) ->
  (∀ R i V,J R i V->V.cell? ⟨g,2,none⟩=some (.int .i64 ((x0+1+i:Nat):Int))/\V.frozen? ⟨g,2,none⟩=false/\Rd V/\fg W.heap.size R V/\(i < N->Jt R i (tick g V (x0+1+i)))) ->
  (∀ R i args V V',W.heap.size<=R.heap.size->i < N->Jt R i V->W.heap.size<=V.heap.size->Below V.heap.size V V'->Ar i args V.heap.size V'->YieldAt Fence.wide 0 Tryz.prog l args V' fun e V''=>bG Tp W.heap.size V' V''/\((e=.returned (.bool true)/\J R (i+1) V'')\/(e=.returned (.bool false)/\Jx R (i+1) V''))) ->
  J0 W ->
  Calls Tryz.prog gf (#[.func (.yield l) #[] #[]] ++ lb) W fun e W'=>(∃ v,e=.returned v)/\W.heap.size<=W'.heap.size/\∃ R:World,W.heap.size<=R.heap.size/\(J R N W'\/∃ i,i < N/\Jx R (i+1) W')
theorem xo{Tp:TypeId→Prop}{z N n g0 x0:Nat}(IT:ItrE w Tp g0 x0 z lb N Ar Rd){assign body:Code}{Q:Exit→Act→World→Prop}{a:Act}(hg:a.eval g=.func (.func z) #[] lb)(eg:∀ args w,(callFunc z args).run Tryz.prog w=.ok (.enter z args) w)(M:∀ i args n V W,Ar i args n V→Cel V W→Ar i args n W)(hAn:∀ i args n V,Ar i args n V→args.size=ps.size)(U:World→Prop)(I K:World→Nat→World→Prop)(Ix:World→Code→Nat→World→Prop)(J:St w.heap.size U)(hI:∀ R i,St w.heap.size (I R i))(C:∀ R i,St w.heap.size (K R i))(q:∀ R c i,St w.heap.size (Ix R c i))(hgw:g0 < w.heap.size)(hx0:∀ V,U V→V.cell? ⟨g0,2,none⟩=some (.int .i64 x0)∧V.frozen? ⟨g0,2,none⟩=false∧Rd V∧∀ R,w.heap.size+2≤R.heap.size→fg (w.heap.size+2) R V→I R 0 (tick g0 V x0))(hx:∀ R i V,I R i V→V.cell? ⟨g0,2,none⟩=some (.int .i64 ((x0+1+i:Nat):Int))∧V.frozen? ⟨g0,2,none⟩=false∧Rd V∧fg (w.heap.size+2) R V∧(i < N→K R i (tick g0 V (x0+1+i))))(h0:U w)(o:∀ R,w.heap.size+2≤R.heap.size→Bn Tp w N n ps assign body a.tmps Ar (K R) (I R) (Ix R))(r:∀ R D W,w.heap.size+2≤R.heap.size→w.heap.size≤D→W.heap[D]?=some (.deferred (some []))→I R N W→Q .normal { a with defers:={ target:=.collected D,args:=#[] } :: a.defers } W)(u:∀ R D c i W,w.heap.size+2≤R.heap.size→w.heap.size≤D→W.heap[D]?=some (.deferred (some []))→i < N→Ix R c (i+1) W→c.wpIn Fence.wide n Tryz.prog Q { a with defers:={ target:=.collected D,args:=#[] } :: a.defers } W) :
    (Code.rangeFunc g ps assign body).wpIn Fence.wide n Tryz.prog Q a w:=by
  refine wpIn_rangeFunc ?_
  intro fn _;obtain⟨f,m⟩:∃ f,(w.alloc (.deferred (some []))).alloc (.loop (cY fn a.tmps ps assign body w.heap.size .ready none))=f:=⟨_,rfl⟩
  have aa:Below w.heap.size w f:=by rw[← m];exact aj (ag w _) (ag _ _)
  have L:f.heap.size=w.heap.size+1+1:=by rw[← m];simp
  have H:f.heap[w.heap.size+1]?=some (.loop (cY fn a.tmps ps assign body w.heap.size .ready none)):=by
    rw[← m];have:=World.alloc_heap_new (w.alloc (.deferred (some []))) (.loop (cY fn a.tmps ps assign body w.heap.size .ready none));rwa [World.size_alloc] at this
  have E:f.heap[w.heap.size]?=some (.deferred (some [])):=by
    rw[← m];exact(Below.heap_alloc _ _ _ (by simp)).trans (World.alloc_heap_new w _)
  have t1:∀ V x,(tick g0 V x).heap[w.heap.size+1]?=V.heap[w.heap.size+1]?:=fun V x=>eY (by omega)
  have t2:∀ V x,(tick g0 V x).heap[w.heap.size]?=V.heap[w.heap.size]?:=fun V x=>eY (by omega)
  have hNB : ∀ b, w.heap.size ≤ b → ∀ cs, ¬ Blk f b cs 5 := fun b hb cs k => by
    have hlt:=k.lt;have l:=k.blk;rcases Nat.lt_or_ge w.heap.size b with S | S
    · obtain rfl : b = w.heap.size + 1 := by omega
      rw[H] at l
      cases l
    · obtain rfl : b = w.heap.size := by omega
      rw[E] at l
      cases l
  refine⟨w.heap.size + 1, [{ target := .collected w.heap.size, args := #[] }], f, { target := .fn (.func z) lb, args := #[.func (.yield (w.heap.size + 1)) #[] #[]] }, f, z,
    #[.func (.yield (w.heap.size+1)) #[] #[]] ++ lb,f,?_,?_,?_,?_,fun h=>(by cases h),?_⟩
  · rw[← m];exact run_enterLoop_outer _ _ _ _ _
  · simp only[resolve,hg]
    simp[go_sem]
  · intro f' _;trivial
  · simp[invoke,go_sem,eg]
  · refine callsIn_wide.2 ?_
    refine(IT (w.heap.size + 1)
      (fun W=>U W∧W.heap[w.heap.size+1]?=some (.loop (cY fn a.tmps ps assign body w.heap.size .ready none))∧W.heap[w.heap.size]?=some (.deferred (some [])))
      (fun R i W=>I R i W∧W.heap[w.heap.size+1]?=some (.loop (cY fn a.tmps ps assign body w.heap.size .ready none))∧W.heap[w.heap.size]?=some (.deferred (some [])))
      (fun R i W=>K R i W∧W.heap[w.heap.size+1]?=some (.loop (cY fn a.tmps ps assign body w.heap.size .ready none))∧W.heap[w.heap.size]?=some (.deferred (some [])))
      (fun R i W=>∃ c,Ix R c i W∧W.heap[w.heap.size+1]?=some (.loop (cY fn a.tmps ps assign body w.heap.size .done (some c)))∧W.heap[w.heap.size]?=some (.deferred (some [])))
      f hNB (by omega) (fun X Y hx d=>⟨J X Y hx.1 (d.mono (by omega)),d.same _ _ hx.2.1 (.inl (by omega)),d.same _ _ hx.2.2 (.inl (by omega))⟩)
      (fun R i X Y hx d=>⟨hI R i X Y hx.1 (d.mono (by omega)),d.same _ _ hx.2.1 (.inl (by omega)),d.same _ _ hx.2.2 (.inl (by omega))⟩)
      (fun R i X Y hx d=>⟨C R i X Y hx.1 (d.mono (by omega)),d.same _ _ hx.2.1 (.inl (by omega)),d.same _ _ hx.2.2 (.inl (by omega))⟩)
      (fun R i X Y hx d=>by obtain⟨c,S,Z,h3⟩:= hx;exact⟨c,q R c i X Y S (d.mono (by omega)),d.same _ _ Z (.inl (by omega)),d.same _ _ h3 (.inl (by omega))⟩)
      (by omega)
      (fun V t=>by obtain⟨A,O,y,T⟩:= hx0 V t.1;exact⟨A,O,y,fun R hR hE=>⟨T R (by omega) (L ▸ hE),(t1 V x0).trans t.2.1,(t2 V x0).trans t.2.2⟩⟩)
      (fun R i V t=>by obtain⟨A,O,y,q5,T⟩:= hx R i V t.1;exact⟨A,O,y,L ▸ q5,fun hi=>⟨T hi,(t1 V _).trans t.2.1,(t2 V _).trans t.2.2⟩⟩)
      ?_ ⟨J _ _ h0 (Rec.of aa),H,E⟩).mono ?_
    · rintro R i args V V' hRs s ⟨hi,p,l⟩ ab hb ha
      have d:=o R (by omega) _ i args V V' (by omega) (lt_of_block p) ⟨_,p⟩ s hi hb ha;refine(iP (Tp:=Tp) (B:=w.heap.size) (i:=2 * i+1) (I:=pM (I R) (K R)) (Ix:=fun c k=>Ix R c (k / 2)) (Ar:=fun k=>Ar (k / 2)) (fun j=>M (j / 2)) (fun j=>by unfold pM;split;exact hI R _;exact C R _) (fun c j=>q R c _) (by omega) p (by rw[jl];exact hi) hb (by rw[show (2 * i+1) / 2=i by omega];exact ha) (hAn _ _ _ _ ha) (wpIn_mono d ?_)).mono ?_
      · intro e a1 f h
        cases e <;> first
          | (refine⟨h.1, fun V2 W2 A O y T q5 q6 q7 => ?_⟩
             rw[jl] at A;rw[show (2 * i+1) / 2=i by omega] at y
             exact wpIn_mono (h.2 V2 W2 A O y T q5 q6 q7) (fun e a W h=>oK h))
          | exact h.elim
      · rintro e V'' ⟨F,h⟩
        have G:=F.same _ _ (Nat.le_refl _) (by omega) ((hb.block _ (lt_of_block l)).trans l) ml;refine⟨F.from (by omega) (by omega),h.imp (fun h=>⟨h.1,by have:=h.2.1;rw[kI] at this;exact this,h.2.2,G⟩) (fun h=>?_)⟩;obtain⟨S,c,Z,h3⟩:= h;rw[show (2 * i+1+1) / 2=i+1 by omega] at Z;exact⟨S,c,Z,h3,G⟩
    · rintro e W2 ⟨⟨v,rfl⟩,ab,R,hRs,⟨hi,p,l⟩ | ⟨i,s,c,hi,p,l⟩⟩
      · exact⟨none,_,run_endLoop (P:=Tryz.prog) p (by simp[cY]),r R _ _ (by omega) (Nat.le_refl _) ((World.putObj_heap_other (by omega)).trans l) (hI R _ _ _ hi (Rec.put p rfl (by omega) _))⟩
      · exact⟨some c,_,run_endLoop (P:=Tryz.prog) p (by simp[cY]),u R _ c i _ (by omega) (Nat.le_refl _) ((World.putObj_heap_other (by omega)).trans l) s (q R c _ _ _ hi (Rec.put p rfl (by omega) _))⟩
end
end Kv
end
section
namespace Pw
open Go.RowKit Go.Lib Pg Kv Bk
attribute [local go_sem] Oper.semAt_some
end Pw
end
section
namespace Pw
open Go.RowKit Go.Lib Pg Kv Bk
attribute [local go_sem] Oper.semAt_some
section
variable {w w':World} {B B':Nat} {v:Value} {l:List Int}
end
theorem zp {w w':World} {K D:Nat->Prop} {g n N B:Nat} {E:ax} {W:List ax} (h:SA w K D g E W n N) (a:Rec B w w'):SA w' K D g E W n N :=
 h.same (fun b d=>by obtain⟨cs,t,k,_⟩:=h.kind b d;exact(a.same b _ k.blk (.inr rfl)).trans k.blk.symm) (fun b _ _ c=>by obtain⟨cs,k⟩:=c;exact(a.same b _ k.blk (.inr rfl)).trans k.blk.symm)
section
variable {Wb V V' R:World} {a t g x N:Nat} {K D:Nat->Prop} {E:ax} {Wn:List ax} {l:List Int}
end
end Pw
end
end Go.Proofs.YtidnifmehnjipaaGreat
