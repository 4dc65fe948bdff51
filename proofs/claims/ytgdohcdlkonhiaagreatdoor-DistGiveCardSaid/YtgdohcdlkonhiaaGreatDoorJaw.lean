import Derived.Test.YtgdohcdlkonhiaaGreatDoorJaq
import Derived.Test.YtgdohcdlkonhiaaGreatDoorJav
set_option maxRecDepth 100000
set_option maxHeartbeats 8000000
namespace Go.Proofs.YtgdohcdlkonhiaaGreatDoor
section
namespace Fo
open Go.RowKit Go.Lib Pg Lim Gl Kv Bk Pw
theorem mk_f {w:World} {k a b:Int} (c:0<=a/\a < 18446744073709551616) (hk:16 < (Ky.frm k).1):Calls Tryz.prog 14 #[.agg #[.int .i64 k,.int .u64 a,.int .u64 b]] w fun e w'=>∃ v,e=.returned (.tuple #[v,.int .i64 0])/\ByU w' v (Ky.mk k a b)/\Below w.heap.size w w':=qk c (by
 unfold Ky.mkE
 have f:¬ (Ky.frm k).1=0:=by omega
 have d:8 < (Ky.frm k).1:=by omega
 simp[f,d,hk])
end Fo
end
section
namespace Fo
open Go.RowKit Go.Lib Pg Lim Gl Kv Bk Pw
attribute [local go_sem] Oper.semAt_some
set_option linter.unusedVariables false
set_option linter.unusedSimpArgs false
structure Nk (w:World) (K:Nat->Prop) (z:Nat) (ao:Option Addr) (n c:Nat) (x:Int):Prop where
 lt:n=0\/z < w.heap.size
 out:n=0\/¬ K z
 to:∀ w':World,(n≠0->w'.heap[z]?=w.heap[z]?)->aI w' ao n c x
structure Nq (w:World) (K:Nat->Prop) (z:Nat) (ao:Option Addr) (n c:Nat) (x:Int):Prop where
 lt:n=0\/z < w.heap.size
 out:n=0\/¬ K z
 to:∀ w':World,(n≠0->w'.heap[z]?=w.heap[z]?)->ed w' ao n c x
section
variable {w w':World} {K K':Nat->Prop} {z n c:Nat} {ao:Option Addr} {x:Int}
theorem Nk.nat (h:Nk w K z ao n c x):aI w ao n c x:=h.to w (fun _=>rfl)
theorem Nk.keep (h:Nk w K z ao n c x) (hb:Below w.heap.size w w'):Nk w' K z ao n c x :=
 ⟨h.lt.imp_right fun h=>Nat.lt_of_lt_of_le h hb.size,h.out,fun b a=>h.to b fun hn=>(a hn).trans (hb.block z (h.lt.resolve_left hn))⟩
theorem Nk.op (h:Nk w K z ao n c x) (f:∀ b,K' b->K b\/w.heap.size<=b) (hc:Chg K w w'):Nk w' K' z ao n c x:=by
 refine⟨h.lt.imp_right fun h=>Nat.lt_of_lt_of_le h hc.size,?_,fun g a=>h.to g fun hn=>(a hn).trans (hc.same z (h.lt.resolve_left hn) (h.out.resolve_left hn))⟩;rcases h.lt with d | d
 ·exact .inl d
 ·refine h.out.imp_right fun a e=>(f z e).elim a fun i=>by omega
theorem Nq.o (h:Nq w K z ao n c x):ed w ao n c x:=h.to w (fun _=>rfl)
theorem Nq.keep (h:Nq w K z ao n c x) (hb:Below w.heap.size w w'):Nq w' K z ao n c x :=
 ⟨h.lt.imp_right fun h=>Nat.lt_of_lt_of_le h hb.size,h.out,fun b a=>h.to b fun hn=>(a hn).trans (hb.block z (h.lt.resolve_left hn))⟩
theorem Nq.op (h:Nq w K z ao n c x) (f:∀ b,K' b->K b\/w.heap.size<=b) (hc:Chg K w w'):Nq w' K' z ao n c x:=by
 refine⟨h.lt.imp_right fun h=>Nat.lt_of_lt_of_le h hc.size,?_,fun g a=>h.to g fun hn=>(a hn).trans (hc.same z (h.lt.resolve_left hn) (h.out.resolve_left hn))⟩;rcases h.lt with d | d
 ·exact .inl d
 ·refine h.out.imp_right fun a e=>(f z e).elim a fun i=>by omega
theorem Nq.cell {g:Nat} (h:Nq w K z ao n c x) (hc:Chg (·=g) w w') (a:n=0\/z≠g):Nq w' K z ao n c x :=
 ⟨h.lt.imp_right fun h=>Nat.lt_of_lt_of_le h hc.size,h.out,fun d b=>h.to d fun hn=>(b hn).trans (hc.same z (h.lt.resolve_left hn) (a.resolve_left hn))⟩
theorem Nq.nat (h:Nq w K z ao n c x):aI w ao n c x:=h.o.a
theorem ga {B:Nat} (h:Rc.da w B ao n c x) (f:∀ b,K b->b < B):∃ z,(n=0\/B<=z)/\Nq w K z ao n c x:=by
 obtain⟨b,o,l,e,d,j,a,g⟩:=h.ex;refine⟨b,.inr g,?_,.inr fun hk=>by have:=f b hk;omega,fun k hw=>⟨b,o,l,e,d,j,⟨a.loc,fun i hi=>?_⟩⟩⟩
 ·rcases Nat.eq_zero_or_pos n with h | h
  ·exact .inl h
  ·exact .inr (aF (a.cell 0 (by omega)))
 ·rw[World.cell?_of_block (w:=w) (hw (by omega))];exact a.cell i hi
end
section
variable {w w':World} {K:Nat->Prop} {z k d g B n N:Nat} {a:Option Addr} {x:Int} {E:aC} {W:List aC}
theorem aU (A:Sx B w K g E W n N) (M:Nf w' z a k d x) (hz:k=0\/w.heap.size<=z):Nq w' K z a k d x :=
 ⟨M.lt,hz.imp_right fun h1 h2=>by have:=A.sa.lt h2;omega,M.to⟩
theorem Nq.nk (h:Nq w K z a k d x):Nk w K z a k d x:=⟨h.lt,h.out,fun w2 h2=>(h.to w2 h2).a⟩
theorem Nq.f (h:Nq w K z a k d x):Nf w z a k d x:=⟨h.lt,h.to⟩
end
section
variable {n z s g B N:Nat}{k b id p:Int}{a aH:Option Addr}{v l:List Int}{w:World}{K:Nat->Prop}{E:aC}{W:List aC}
theorem ne1(h:n=0\/z < s)(hg:s<=g):n=0\/z≠g:=h.imp_right fun h=>by omega
theorem ne2(h:n=0\/s<=z)(hg:g < s):n=0\/z≠g:=h.imp_right fun h=>by omega
theorem ne3{t:Nat}(h:n=0\/s<=z)(hs:t<=s):n=0\/t<=z:=h.imp_right fun h=>by omega
def got(E:aC)(k:List Int):List Int:=(Kv.look E k).getD []
theorem DM{a:Int}(hE:Ky.mkE k a b=false)(hv:v.length<=4096):gZ (Ky.mk k a b) v=0:=by
 have h1:=mk_pos hE;have h2:=Ky.jD k a b;unfold gZ;rw[if_neg (by omega),if_neg (by omega)]
theorem qset{kv vv:Value}{a:Int}(h:Sx B w K g E W n N)(hk:ByU w kv (Ky.mk k a b))(c:Ky.mkE k a b=false)(hv:ByU w vv v)(d:v.length<=4096)(hn:n<=4000000000000000000)(e:N+2<=100000000) :
  Calls Tryz.prog 15 #[pg g,kv,vv] w (SxE B w K g (put E (Ky.mk k a b) v) W (n+1) (N+2) (.int .i64 0)):=by
 have u:=xset h hk hv hn e;rw[DM c d,if_pos rfl] at u;exact u
theorem jC(h:Sx B w K g E W n N)(k:List Int):(got E k).length<=1000000000:=by
 unfold got
 cases e:Kv.look E k with
 | none=>simp
 | some v=>exact(h.sa.small _ (Kv.mC e)).2
theorem mkE7(a b:Int):Ky.mkE 7 a b=false:=by
 unfold Ky.mkE;rw[show (Ky.frm 7).1=18 from rfl];simp
def hv(x y:Int):List Int:=Rc.thr (Rc.pnx (fun o=>([x,y]:List Int).getD o 0)) [(2,0),(0,1)] []
def hX(l:List Int)(i:Nat):Int:=Rc.aP (Rc.et l) i
theorem Ao(x y:Int):(hv x y).length<=600:=by have:=Rc.ea (fun o=>([x,y]:List Int).getD o 0) [(2,0),(0,1)] [];simpa[hv] using this
theorem hv_oct(x y:Int):Oct (hv x y):=Rc.iY _ _ _ (fun _ h=>by simp at h)
theorem Ac{x y:Int}{c:Nat}(h:aI w a n c x)(m:n<=1000000):Calls Tryz.prog 174 #[.agg #[.slice a n c,.int .u64 y]] w fun e w'=>∃ v,e=.returned v/\ByU w' v (hv x y)/\Below w.heap.size w w':=by
 refine(Rc.nK h m).mono ?_
 rintro e w' ⟨b,n,rfl,hn,X,hb,B⟩;exact⟨_,rfl,iN X (hv_oct x y) hn (Nat.le_trans (Ao x y) (by decide)),B⟩
theorem C8{v:Value}(h:ByU w v l)(d:l.length<=1000000000):Calls Tryz.prog 173 #[v] w fun e w'=>∃ a0 n0 c0,e=.returned (.tuple #[.agg #[.slice a0 n0 c0,.int .u64 (hX l 1)],.int .i64 (Rc.eN (Rc.et l))])/\(Rc.da w' w.heap.size a0 n0 c0 (hX l 0)/\n0<=510)/\Below w.heap.size w w':=by
 obtain⟨b,f,c,rfl,a⟩:=bya h.byt;exact Rc.A7 a d
theorem Ci{a:Int}(f:0<=a/\a < 18446744073709551616)(hk:16 < (Ky.frm k).1):Calls Tryz.prog 172 #[.int .i64 k,.int .u64 a,.int .u64 b] w fun e w'=>∃ v,e=.returned v/\ByU w' v (Ky.mk k a b)/\Below w.heap.size w w':=by
 have c:=Below.refl w.heap.size w;refine ax (n:=18) Tryz.func172 rfl ?_
 refine ae (ah (t 6 (.slice none 0 0) (af (aa (ae (ah (t 10 (iI k) (t 11 (iU a) (t 12 (iU b) (t 13 (.agg #[iI k,iU a,iU b]) (tc 14 14 #[.agg #[iI k,iU a,iU b]] (mk_f f hk) ?_)))))))))));rintro _ v1 ⟨v,rfl,d,B⟩;refine⟨_,rfl,?_⟩;replace c:=aj c B;refine t 9 (.tuple #[v,iI 0]) (t 15 (v) (t 16 (iI 0) (t 7 (v) (t 8 (iI 0) (af (aa (aD [(6,.slice none 0 0),(7,v)] (ae (ah (t 17 (v) (t 6 (v) (af (aa (ay (aA (v) (rs1 6) ?_)))))))))))))));exact⟨_,rfl,d,c⟩
structure FndH(B:Nat)(w:World)(K:Nat->Prop)(g:Nat)(E:aC)(W:List aC)(n N:Nat)(V:Int)(mk:Value->Value)(e:Ending)(w':World):Prop where
 ex:∃ a0 n0 c0,e=.returned (mk (.slice a0 n0 c0))/\∃ z0 K',Sx B w' K' g E W n N/\(∀ b,K' b->K b\/w.heap.size<=b)/\Chg K w w'/\Nq w' K' z0 a0 n0 c0 V/\n0<=510/\(n0=0\/w.heap.size<=z0)
abbrev hmk(r:Int)(b:Bool)(v:Value):Value:=.tuple #[.agg #[v,.int .u64 r],.bool b]
abbrev rmk(v:Value):Value:=.agg #[v]
theorem mu(h:Sx B w K g E W n N)(hid:0<=id/\id < 18446744073709551616)(hn:n+10<=4000000000000000000)(P:N+10<=100000000):Calls Tryz.prog 114 #[pg g,.int .u64 id,.int .u64 p] w (FndH B w K g E W (n+1) N (hX (got E (Ky.mk 7 id p)) 0) (hmk (hX (got E (Ky.mk 7 id p)) 1) (Kv.look E (Ky.mk 7 id p)).isSome)):=by
 have A:=h.at
 refine ax (n:=27) Tryz.func114 rfl ?_
 refine ae (ah (ta 6 [.slice none 0 0,iU 0] 186 (pg) ?_));intro v1 g2 a D B;obtain⟨F,i,A⟩:=A.al D B;refine t 7 (bF) (af (aa (ae (ah (t 13 (pg g) (t 14 (iU id) (t 15 (iU p) (tc 16 172 #[iI 7,iU id,iU p] (Ci hid (by decide)) ?_))))))));rintro _ v5 ⟨z,rfl,m,B⟩;refine⟨_,rfl,?_⟩;replace A:=A.keep B;replace a:=a.keep B;refine tc 17 82 #[pg g,z] (xc A.sx m (by omega) (by omega)) ?_
 rintro _ O ⟨k,rfl,x,S,y⟩;refine⟨_,rfl,?_⟩;replace i:=opX a i (fun _ h=>.inl h) y;replace a:=i.1;replace i:=i.2;replace m:=A.byu m y;replace A:=A.op S (fun _ h=>.inl h) y;refine t 12 (.tuple #[k,.bool (Kv.look E (Ky.mk 7 id p)).isSome]) (t 18 (k) (t 19 (.bool (Kv.look E (Ky.mk 7 id p)).isSome) (t 8 (k) (t 9 (.bool (Kv.look E (Ky.mk 7 id p)).isSome) (af (aa (aD [(6,pg g2),(7,bF),(8,k),(9,.bool (Kv.look E (Ky.mk 7 id p)).isSome)] (ae (ah (t 21 (k) (tc 22 173 #[k] (C8 x (jC A.sx _)) ?_)))))))))));rintro _ v10 ⟨f,d,e,rfl,⟨H,G⟩,B⟩;refine⟨_,rfl,?_⟩;obtain⟨M,s,j⟩:=ga H (fun b hb=>A.lt hb);clear H;have q:=ne2 s a.lt;have u:=ne3 s A.size;clear s;replace A:=A.keep B;replace a:=a.keep B;replace m:=aT m B;replace x:=aT x B;clear x;refine t 20 (.tuple #[.agg #[.slice f d e,iU (hX (got E (Ky.mk 7 id p)) 1)],iI (Rc.eN (Rc.et (got E (Ky.mk 7 id p))))]) (t 23 (.agg #[.slice f d e,iU (hX (got E (Ky.mk 7 id p)) 1)]) (t 24 (iI (Rc.eN (Rc.et (got E (Ky.mk 7 id p))))) ?_));have I:=a.lt;refine ta 10 [.slice none 0 0,iU 0] 186 (pg) ?_
 intro v11 g12 c l B;have v:=Nat.le_trans A.size l;have r:=A.new l;have o:=ne1 j.lt l;replace A:=A.keep B;replace a:=a.keep B;replace m:=aT m B;replace j:=j.keep B;refine ts c 0 (.agg #[.slice f d e,iU (hX (got E (Ky.mk 7 id p)) 1)]) [.slice f d e,iU (hX (got E (Ky.mk 7 id p)) 1)] [.slice f d e,iU (hX (got E (Ky.mk 7 id p)) 1)] ?_
 intro J Y C;replace A:=Bk.At.cell A c C v r (by decide);replace a:=a.chg C (show g2≠g12 by omega);replace m:=dV m c C (by decide);replace j:=j.cell C o;have c:=Y;refine t 11 (iI (Rc.eN (Rc.et (got E (Ky.mk 7 id p))))) (af (aa (ae (ah (tlr 25 [.slice f d e,iU (hX (got E (Ky.mk 7 id p)) 1)] c 0 (t 26 (.bool (Kv.look E (Ky.mk 7 id p)).isSome) (ts a 0 (.agg #[.slice f d e,iU (hX (got E (Ky.mk 7 id p)) 1)]) [.slice f d e,iU (hX (got E (Ky.mk 7 id p)) 1)] [.slice f d e,iU (hX (got E (Ky.mk 7 id p)) 1)] ?_)))))));intro L Y C;replace A:=Bk.At.cell A a C F i (by decide);replace m:=dV m a C (by decide);replace j:=j.cell C q;replace c:=c.chg C (show g12≠g2 by omega);have a:=Y;refine t 7 (.bool (Kv.look E (Ky.mk 7 id p)).isSome) (af (aa (ay (aA (.tuple #[.agg #[.slice f d e,iU (hX (got E (Ky.mk 7 id p)) 1)],.bool (Kv.look E (Ky.mk 7 id p)).isSome]) (dP (T:=186) 6 7 (lr a 0)) ?_))));exact⟨_,_,_,rfl,_,_,A.sx,A.km,A.cc,j,G,u⟩
theorem eJ(h:Sx B w K g E W n N)(hid:0<=id/\id < 18446744073709551616)(hn:n+10<=4000000000000000000)(H:N+10<=100000000):Calls Tryz.prog 213 #[pg g,.int .u64 id,.int .u64 p] w (FndH B w K g E W (n+1) N (hX (got E (Ky.mk 7 id p)) 0) rmk):=by
 have A:=h.at
 refine ax (n:=18) Tryz.func213 rfl ?_
 refine ae (ah (ta 6 [.slice none 0 0] 26 (pg) ?_));intro v1 g2 a u B;obtain⟨v,i,A⟩:=A.al u B;refine af (aa (ae (ah (t 10 (pg g) (t 11 (iU id) (t 12 (iU p) (tc 13 114 #[pg g,iU id,iU p] (mu A.sx hid (by omega) (by omega)) ?_)))))));rintro _ v5 ⟨b,c,d,rfl,D,F,S,z,x,e,s,m⟩;refine⟨_,rfl,?_⟩;have k:=ne2 m a.lt;have q:=ne3 m A.size;clear m;obtain⟨a,i⟩:=fq a i z x;replace A:=A.op S z x;refine t 9 (.tuple #[.agg #[.slice b c d,iU (hX (got E (Ky.mk 7 id p)) 1)],.bool (Kv.look E (Ky.mk 7 id p)).isSome]) (t 14 (.agg #[.slice b c d,iU (hX (got E (Ky.mk 7 id p)) 1)]) (t 15 (.bool (Kv.look E (Ky.mk 7 id p)).isSome) ?_));have y:=a.lt;refine ta 7 [.slice none 0 0,iU 0] 186 (pg) ?_
 intro v6 g7 f l B;have r:=Nat.le_trans A.size l;have o:=A.new l;have j:=ne1 e.lt l;replace A:=A.keep B;replace a:=a.keep B;replace e:=e.keep B;refine ts f 0 (.agg #[.slice b c d,iU (hX (got E (Ky.mk 7 id p)) 1)]) [.slice b c d,iU (hX (got E (Ky.mk 7 id p)) 1)] [.slice b c d,iU (hX (got E (Ky.mk 7 id p)) 1)] ?_
 intro G Y C;replace A:=Bk.At.cell A f C r o (by decide);replace a:=a.chg C (show g2≠g7 by omega);replace e:=e.cell C j;have f:=Y;refine t 8 (.bool (Kv.look E (Ky.mk 7 id p)).isSome) (af (aa (aD [(6,pg g2),(7,pg g7)] (ae (ah (t 16 (pg g7) (tlr 17 [.slice b c d] f 0 (ts a 0 (.agg #[.slice b c d]) [.slice b c d] [.slice b c d] ?_))))))));intro v9 Y C;replace A:=Bk.At.cell A a C v i (by decide);replace e:=e.cell C k;replace f:=f.chg C (show g7≠g2 by omega);have a:=Y;refine af (aa (ay (aA (.agg #[.slice b c d]) (rsc (T:=26) 6 (lr a 0)) ?_)));exact⟨_,_,_,rfl,_,_,A.sx,A.km,A.cc,e,s,q⟩
def wj(E:aC)(id p x r:Int):aC:=if r=0 then rem E (Ky.mk 7 id p) else put E (Ky.mk 7 id p) (hv x r)
theorem gR{r:Int}{k l z:Nat}{q:Int}(h:Sx B w K g E W n N)(hid:0<=id/\id < 18446744073709551616)(d:Nk w K z aH k l q)(x:k<=1000000)(hn:n+10<=4000000000000000000)(G:N+10<=100000000):Calls Tryz.prog 115 #[pg g,.int .u64 id,.int .u64 p,.agg #[.slice aH k l,.int .u64 r]] w (SxE B w K g (wj E id p q r) W (n+1) (N+2) (.tuple #[])):=by
 have A:=h.at
 refine ax (n:=23) Tryz.func115 rfl ?_
 refine ae (ah (ta 7 [.slice aH k l,iU r] 186 (pg) ?_));intro v1 g2 a j B;have C:=Nat.le_trans A.size j;have c:=A.new j;have u:=ne1 d.lt j;replace A:=A.keep B;replace d:=d.keep B;refine af (aa (ae (ah (t 9 (iU id) (t 10 (iU p) (tc 11 172 #[iI 7,iU id,iU p] (Ci hid (by decide)) ?_))))));rintro _ v5 ⟨b,rfl,f,B⟩;refine⟨_,rfl,?_⟩;replace A:=A.keep B;replace d:=d.keep B;replace a:=a.keep B;refine t 8 (b) (af (aa (ae (ae (ah (t 12 (pq g2 1) (tl 13 (iU r) a 1 ?_)))))));by_cases s:(r:Int)=0
 ·refine tq 14 (.bool ((r:Int) == 0)) (bT) (congrArg Value.bool (beq_iff_eq.2 s)) (af (aa (aD [(0,pg g),(7,pg g2),(8,b),(14,bT)] (bJ (ae (ah (t 15 (pg g) (t 16 (b) (tc 17 112 #[pg g,b] (xdel A.sx f (Nat.le_trans (Ky.jD _ _ _) (by decide)) (by omega) (by omega)) ?_)))))))));rintro _ D ⟨rfl,F,S,i,e⟩;refine⟨_,rfl,?_⟩;replace d:=d.op i e;obtain⟨a,c⟩:=fq a c i e;replace f:=A.byu f e;replace A:=A.op S i e;clear f;refine af (aa (ay (dD (aA (.tuple #[]) (rs0) ?_))));rw[show wj E id p q r=_ from if_pos s];exact⟨rfl,_,A.sx,A.km,A.cc⟩
 ·refine tq 14 (.bool ((r:Int) == 0)) (bF) (congrArg Value.bool (beq_eq_false_iff_ne.2 s)) (af (aa (aD [(0,pg g),(7,pg g2),(8,b),(14,bF)] (aZ (aM (aa (ah (t 18 (pg g) (t 19 (b) (tlr 20 [.slice aH k l,iU r] a 0 (tc 21 174 #[.agg #[.slice aH k l,iU r]] (Ac d.nat x) ?_)))))))))));rintro _ v11 ⟨m,rfl,o,B⟩;refine⟨_,rfl,?_⟩;replace A:=A.keep B;replace d:=d.keep B;replace a:=a.keep B;replace f:=aT f B;refine tc 22 15 #[pg g,b,m] (qset A.sx f (mkE7 id p) o (Nat.le_trans (Ao _ _) (by decide)) (by omega) (by omega)) ?_
  rintro _ v ⟨rfl,y,S,i,e⟩;refine⟨_,rfl,?_⟩;replace d:=d.op i e;obtain⟨a,c⟩:=fq a c i e;replace f:=A.byu f e;replace o:=A.byu o e;replace A:=A.op S i e;clear f;clear o;refine af (bY (.tuple #[]) (rs0) ?_);rw[show wj E id p q r=_ from if_neg s];exact⟨rfl,_,A.sx,A.km,A.cc⟩
def gS(E:aC)(id p:Int):aC:=wj E id p (hX (got E (Ky.mk 7 id p)) 0) ((hX (got E (Ky.mk 7 id p)) 1+1) % 18446744073709551616)
def letE(E:aC)(id p:Int):aC:=if (Kv.look E (Ky.mk 7 id p)).isSome=true then wj E id p (hX (got E (Ky.mk 7 id p)) 0) ((hX (got E (Ky.mk 7 id p)) 1 - 1) % 18446744073709551616) else E
theorem oJ(h:Sx B w K g E W n N)(hid:0<=id/\id < 18446744073709551616)(hn:n+20<=4000000000000000000)(y:N+20<=100000000):Calls Tryz.prog 57 #[pg g,.int .u64 id,.int .u64 p] w (SxE B w K g (gS E id p) W (n+2) (N+2) (.tuple #[])):=by
 have A:=h.at
 refine ax (n:=24) Tryz.func57 rfl ?_
 refine ae (ah (t 9 (pg g) (t 10 (iU id) (t 11 (iU p) (tc 12 114 #[pg g,iU id,iU p] (mu A.sx hid (by omega) (by omega)) ?_)))));rintro _ v3 ⟨c,e,d,rfl,r,u,S,m,l,a,s,k⟩;refine⟨_,rfl,?_⟩;have q:=ne3 k A.size;clear k;replace A:=A.op S m l;refine t 8 (.tuple #[.agg #[.slice c e d,iU (hX (got E (Ky.mk 7 id p)) 1)],.bool (Kv.look E (Ky.mk 7 id p)).isSome]) (t 13 (.agg #[.slice c e d,iU (hX (got E (Ky.mk 7 id p)) 1)]) (t 14 (.bool (Kv.look E (Ky.mk 7 id p)).isSome) (ta 6 [.slice none 0 0,iU 0] 186 (pg) ?_)));intro v4 g5 b j B;have o:=Nat.le_trans A.size j;have i:=A.new j;have f:=ne1 a.lt j;replace A:=A.keep B;replace a:=a.keep B;refine ts b 0 (.agg #[.slice c e d,iU (hX (got E (Ky.mk 7 id p)) 1)]) [.slice c e d,iU (hX (got E (Ky.mk 7 id p)) 1)] [.slice c e d,iU (hX (got E (Ky.mk 7 id p)) 1)] ?_
 intro v6 Y C;replace A:=Bk.At.cell A b C o i (by decide);replace a:=a.cell C f;have b:=Y;refine t 7 (.bool (Kv.look E (Ky.mk 7 id p)).isSome) (af (aa (aD [(0,pg g),(1,iU id),(2,iU p),(6,pg g5)] (ae (ah (t 15 (pq g5 1) (tl 16 (iU (hX (got E (Ky.mk 7 id p)) 1)) b 1 (tq 17 (iU (IntKind.u64.wrap ((hX (got E (Ky.mk 7 id p)) 1)+1))) (iU (((hX (got E (Ky.mk 7 id p)) 1)+1) % 18446744073709551616)) (congrArg (Value.int .u64) (IntKind.wrap_u64 _)) (t 18 (pq g5 1) (ts b 1 (iU (((hX (got E (Ky.mk 7 id p)) 1)+1) % 18446744073709551616)) [iU (((hX (got E (Ky.mk 7 id p)) 1)+1) % 18446744073709551616)] [.slice c e d,iU (((hX (got E (Ky.mk 7 id p)) 1)+1) % 18446744073709551616)] ?_))))))))));intro x Y C;replace A:=Bk.At.cell A b C o i (by decide);replace a:=a.cell C f;have b:=Y;refine af (aa (ah (t 19 (pg g) (t 20 (iU id) (t 21 (iU p) (tlr 22 [.slice c e d,iU (((hX (got E (Ky.mk 7 id p)) 1)+1) % 18446744073709551616)] b 0 (tc 23 115 #[pg g,iU id,iU p,.agg #[.slice c e d,iU (((hX (got E (Ky.mk 7 id p)) 1)+1) % 18446744073709551616)]] (gR A.sx hid a.nk (by omega) (by omega) (by omega)) ?_)))))));rintro _ v9 ⟨rfl,v,S,m,l⟩;refine⟨_,rfl,?_⟩;replace a:=a.op m l;obtain⟨b,i⟩:=fq b i m l;replace A:=A.op S m l;refine af (bY (.tuple #[]) (rs0) ?_);exact⟨rfl,_,A.sx,A.km,A.cc⟩
theorem vN(h:Sx B w K g E W n N)(hid:0<=id/\id < 18446744073709551616)(hn:n+20<=4000000000000000000)(z:N+20<=100000000):Calls Tryz.prog 214 #[pg g,.int .u64 id,.int .u64 p] w (SxF B w K g (letE E id p) W n N (.tuple #[])):=by
 have A:=h.at
 refine ax (n:=25) Tryz.func214 rfl ?_
 refine ae (ah (t 9 (pg g) (t 10 (iU id) (t 11 (iU p) (tc 12 114 #[pg g,iU id,iU p] (mu A.sx hid (by omega) (by omega)) ?_)))));rintro _ v3 ⟨c,e,d,rfl,s,v,S,o,m,a,u,l⟩;refine⟨_,rfl,?_⟩;have r:=ne3 l A.size;clear l;replace A:=A.op S o m;refine t 8 (.tuple #[.agg #[.slice c e d,iU (hX (got E (Ky.mk 7 id p)) 1)],.bool (Kv.look E (Ky.mk 7 id p)).isSome]) (t 13 (.agg #[.slice c e d,iU (hX (got E (Ky.mk 7 id p)) 1)]) (t 14 (.bool (Kv.look E (Ky.mk 7 id p)).isSome) (ta 6 [.slice none 0 0,iU 0] 186 (pg) ?_)));intro v4 g5 b j B;have q:=Nat.le_trans A.size j;have i:=A.new j;have f:=ne1 a.lt j;replace A:=A.keep B;replace a:=a.keep B;refine ts b 0 (.agg #[.slice c e d,iU (hX (got E (Ky.mk 7 id p)) 1)]) [.slice c e d,iU (hX (got E (Ky.mk 7 id p)) 1)] [.slice c e d,iU (hX (got E (Ky.mk 7 id p)) 1)] ?_
 intro v6 Y C;replace A:=Bk.At.cell A b C q i (by decide);replace a:=a.cell C f;have b:=Y;refine t 7 (.bool (Kv.look E (Ky.mk 7 id p)).isSome) (af (aa (aD [(0,pg g),(1,iU id),(2,iU p),(6,pg g5),(7,.bool (Kv.look E (Ky.mk 7 id p)).isSome)] (ae (ah (t 15 (.bool (Kv.look E (Ky.mk 7 id p)).isSome) (af (aa ?_))))))));rcases Bool.eq_false_or_eq_true ((Kv.look E (Ky.mk 7 id p)).isSome) with k | k
 ·refine bJ (hc:=congrArg Value.bool k) (ae (ah (t 16 (pq g5 1) (tl 17 (iU (hX (got E (Ky.mk 7 id p)) 1)) b 1 (tq 18 (iU (IntKind.u64.wrap ((hX (got E (Ky.mk 7 id p)) 1) - 1))) (iU (((hX (got E (Ky.mk 7 id p)) 1) - 1) % 18446744073709551616)) (congrArg (Value.int .u64) (IntKind.wrap_u64 _)) (t 19 (pq g5 1) (ts b 1 (iU (((hX (got E (Ky.mk 7 id p)) 1) - 1) % 18446744073709551616)) [iU (((hX (got E (Ky.mk 7 id p)) 1) - 1) % 18446744073709551616)] [.slice c e d,iU (((hX (got E (Ky.mk 7 id p)) 1) - 1) % 18446744073709551616)] ?_)))))));intro x Y C;replace A:=Bk.At.cell A b C q i (by decide);replace a:=a.cell C f;have b:=Y;refine af (aa (ah (t 20 (pg g) (t 21 (iU id) (t 22 (iU p) (tlr 23 [.slice c e d,iU (((hX (got E (Ky.mk 7 id p)) 1) - 1) % 18446744073709551616)] b 0 (tc 24 115 #[pg g,iU id,iU p,.agg #[.slice c e d,iU (((hX (got E (Ky.mk 7 id p)) 1) - 1) % 18446744073709551616)]] (gR A.sx hid a.nk (by omega) (by omega) (by omega)) ?_)))))));rintro _ v10 ⟨rfl,y,S,o,m⟩;refine⟨_,rfl,?_⟩;replace a:=a.op o m;obtain⟨b,i⟩:=fq b i o m;replace A:=A.op S o m;refine af (bY (.tuple #[]) (rs0) ?_);rw[show letE E id p=_ from if_pos k];exact⟨rfl,_,_,_,A.sx,by omega,by omega,A.km,A.cc⟩
 ·refine aZ (hc:=congrArg Value.bool k) (aM (bY (.tuple #[]) (rs0) ?_));rw[show letE E id p=_ from if_neg (by rw[k];decide)];exact⟨rfl,_,_,_,A.sx,by omega,by omega,A.km,A.cc⟩
end
end Fo
end
section
namespace Fo
open Go.RowKit Go.Lib Pg Lim Gl
set_option linter.unusedVariables false
set_option linter.unusedSimpArgs false
section
variable {w:World}{a0 a1 a2 a3:Option Addr}{n0 c0 n1 c1 n2 c2:Nat}{x0 x1 x2:Int}
theorem j6(k:aI w a0 n0 c0 x0)(k0:n0<=100000000000):Calls Tryz.prog 59 #[.agg #[.slice a0 n0 c0]] w (NdE w (· <= n0+1) (x0)):=by
 have d:=Below.refl w.heap.size w;refine ax (n:=6) Tryz.func59 rfl ?_
 refine ae (ah (ta 1 [.slice a0 n0 c0] 26 (pg) ?_));intro v1 g2 a m B;replace d:=aj d B;have h:=a.lt;refine ta 2 [.slice none 0 0] 26 (pg) ?_
 intro v3 g4 b l B;replace d:=aj d B;replace a:=a.keep B;refine af (aa (ae (ah (tlr 3 [.slice a0 n0 c0] a 0 (t 4 (.agg #[.slice none 0 0]) ?_)))));have h:=a.lt;have j:=b.lt;refine tc 5 8 #[.agg #[.slice a0 n0 c0],.agg #[.slice none 0 0]] (kP (k.keep d) (by omega) (gK _ 0).nat (by omega)) ?_
 rintro _ v6 ⟨f,c,e,i,rfl,g,o,p,B⟩;refine⟨_,rfl,?_⟩;replace d:=aj d B;replace a:=a.keep B;replace b:=b.keep B;refine ts b 0 (.agg #[.slice f c e]) [.slice f c e] [.slice f c e] ?_
 intro q Y C;replace d:=aL d C (by omega);replace a:=a.chg C (show g2≠g4 by omega);replace g:=g.cell C (show c=0\/i≠g4 by omega);have b:=Y;refine af (aa (ay (aA (.agg #[.slice f c e]) (rsc (T:=26) 2 (lr b 0)) ?_)));exact⟨_,_,_,_,rfl,g.eqv (by omega),by omega,by omega,d⟩
theorem sy(u:aI w a0 n0 c0 x0)(k0:n0<=100000000000)(h1:aI w a1 n1 c1 x1)(k1:n1<=100000000000):Calls Tryz.prog 215 #[.agg #[.slice a0 n0 c0],.agg #[.slice a1 n1 c1]] w (NdE w (· <= n0) (ff x0 x1)):=by
 have g:=Below.refl w.heap.size w;refine ax (n:=14) Tryz.func215 rfl ?_
 refine ae (ah (ta 2 [.slice a0 n0 c0] 26 (pg) ?_));intro v1 g2 a x B;replace g:=aj g B;have j:=a.lt;refine ta 3 [.slice a1 n1 c1] 26 (pg) ?_
 intro v3 g4 b v B;replace g:=aj g B;replace a:=a.keep B;have j:=a.lt;have k:=b.lt;refine ta 4 [.slice none 0 0] 26 (pg) ?_
 intro v5 g6 d q B;replace g:=aj g B;replace a:=a.keep B;replace b:=b.keep B;refine af (aa (ae (ah (tlr 8 [.slice a0 n0 c0] a 0 (tlr 9 [.slice a1 n1 c1] b 0 ?_)))));have j:=a.lt;have k:=b.lt;have m:=d.lt;refine tc 10 6 #[.agg #[.slice a0 n0 c0],.agg #[.slice a1 n1 c1]] (sX (u.keep g) (by omega) (h1.keep g) (by omega)) ?_
 rintro _ y ⟨f,c,e,l,rfl,i,s,r,B⟩;refine⟨_,rfl,?_⟩;replace g:=aj g B;replace a:=a.keep B;replace b:=b.keep B;replace d:=d.keep B;refine t 7 (.tuple #[.agg #[.slice f c e],iI (sbE x0 x1)]) (t 11 (.agg #[.slice f c e]) (t 12 (iI (sbE x0 x1)) ?_));have j:=a.lt;have k:=b.lt;have m:=d.lt;have o:=i.lt;refine ta 5 [.slice none 0 0] 26 (pg) ?_
 intro v9 g10 h p B;replace g:=aj g B;replace a:=a.keep B;replace b:=b.keep B;replace d:=d.keep B;replace i:=i.keep B;refine ts h 0 (.agg #[.slice f c e]) [.slice f c e] [.slice f c e] ?_
 intro v11 Y C;replace g:=aL g C (by omega);replace a:=a.chg C (show g2≠g10 by omega);replace b:=b.chg C (show g4≠g10 by omega);replace d:=d.chg C (show g6≠g10 by omega);replace i:=i.cell C (show c=0\/l≠g10 by omega);have h:=Y;refine t 6 (iI (sbE x0 x1)) (af (aa (aD [(4,pg g6),(5,pg g10)] (ae (ah (tlr 13 [.slice f c e] h 0 (ts d 0 (.agg #[.slice f c e]) [.slice f c e] [.slice f c e] ?_)))))));intro v12 Y C;replace g:=aL g C (by omega);replace a:=a.chg C (show g2≠g6 by omega);replace b:=b.chg C (show g4≠g6 by omega);replace i:=i.cell C (show c=0\/l≠g6 by omega);replace h:=h.chg C (show g10≠g6 by omega);have d:=Y;refine af (aa (ay (aA (.agg #[.slice f c e]) (rsc (T:=26) 4 (lr d 0)) ?_)));exact⟨_,_,_,_,rfl,i,by omega,by omega,g⟩
theorem nM{A c3:Nat}{x3:Int}{rt tk un pe:Int}{jl bo:Bool}(U:aI w a0 n0 c0 x0)(k0:n0<=100000000000)(h1:aI w a1 n1 c1 x1)(k1:n1<=100000000000)(M:aI w a2 n2 c2 x2)(k2:n2<=100000000000)(O:aI w a3 A c3 x3)(k3:A<=100000000000):Calls Tryz.prog 56 #[.agg #[.int .u64 rt,.int .u64 tk,.slice a0 n0 c0,.bool jl,.int .u64 un,.bool bo,.int .u64 pe,.slice a1 n1 c1,.slice a2 n2 c2,.slice a3 A c3]] w fun e w'=>∃ b0 m0 d0 y0 b1 m1 d1 y1 b2 m2 d2 y2 b3 m3 d3 y3,e=.returned (.agg #[.int .u64 rt,.int .u64 tk,.slice b0 m0 d0,.bool jl,.int .u64 un,.bool bo,.int .u64 pe,.slice b1 m1 d1,.slice b2 m2 d2,.slice b3 m3 d3])/\Nf w' y0 b0 m0 d0 x0/\(m0=0\/w.heap.size<=y0)/\m0<=n0 + 1/\Nf w' y1 b1 m1 d1 x1/\(m1=0\/w.heap.size<=y1)/\m1<=n1 + 1/\Nf w' y2 b2 m2 d2 x2/\(m2=0\/w.heap.size<=y2)/\m2<=n2 + 1/\Nf w' y3 b3 m3 d3 x3/\(m3=0\/w.heap.size<=y3)/\m3<=A + 1/\Below w.heap.size w w':=by
 have l:=Below.refl w.heap.size w;refine ax (n:=20) Tryz.func56 rfl ?_
 refine ae (ah (ta 1 [iU rt,iU tk,.slice a0 n0 c0,.bool jl,iU un,.bool bo,iU pe,.slice a1 n1 c1,.slice a2 n2 c2,.slice a3 A c3] 28 (pg) ?_));intro v1 g2 a W B;replace l:=aj l B;have y:=a.lt;refine ta 2 [iU 0,iU 0,.slice none 0 0,bF,iU 0,bF,iU 0,.slice none 0 0,.slice none 0 0,.slice none 0 0] 28 (pg) ?_
 intro v3 g4 b V B;replace l:=aj l B;replace a:=a.keep B;refine af (aa (ae ?_));replace l:=l.drew;replace a:=a.drew;replace b:=b.drew;refine aO (fun w'=>Blk w' g2 [iU rt,iU tk,.slice a0 n0 c0,.bool jl,iU un,.bool bo,iU pe,.slice a1 n1 c1,.slice a2 n2 c2,.slice a3 A c3] 28) (fun i=>decide (7<=i)) a ?_
 refine z 0 3 (pq g2 2) (zlr 1 4 [.slice a0 n0 c0] (fun _ h=>h) 2 (z 3 6 (pq g2 7) (zlr 4 7 [.slice a1 n1 c1] (fun _ h=>h) 7 ?_)));have y:=a.lt;have G:=b.lt;refine zc 2 5 59 #[.agg #[.slice a0 n0 c0]] (j6 (U.keep l) (by omega)) ?_
 rintro _ v6 ⟨s,g,t,D,rfl,c,X,ab,B⟩;replace l:=aj l B;replace a:=a.keep B;replace b:=b.keep B;refine⟨_,rfl,a,?_⟩;refine z 6 9 (pq g2 2) ?_
 have y:=a.lt;have G:=b.lt;refine zc 5 8 59 #[.agg #[.slice a1 n1 c1]] (j6 (h1.keep l) (by omega)) ?_
 rintro _ v8 ⟨x,k,v,E,rfl,f,S,Q,B⟩;replace l:=aj l B;replace a:=a.keep B;replace b:=b.keep B;replace c:=c.keep B;refine⟨_,rfl,a,?_⟩;refine ec (ys 7 a 2 (.agg #[.slice s g t]) [.slice s g t] [iU rt,iU tk,.slice s g t,.bool jl,iU un,.bool bo,iU pe,.slice a1 n1 c1,.slice a2 n2 c2,.slice a3 A c3] ?_);intro v9 Y C;replace l:=aL l C (by omega);replace b:=b.chg C (show g4≠g2 by omega);replace c:=c.cell C (show g=0\/D≠g2 by omega);replace f:=f.cell C (show k=0\/E≠g2 by omega);have a:=Y;refine yt 8 10 (pq g2 7) (ys 9 a 7 (.agg #[.slice x k v]) [.slice x k v] [iU rt,iU tk,.slice s g t,.bool jl,iU un,.bool bo,iU pe,.slice x k v,.slice a2 n2 c2,.slice a3 A c3] ?_);intro v10 Y C;replace l:=aL l C (by omega);replace b:=b.chg C (show g4≠g2 by omega);replace c:=c.cell C (show g=0\/D≠g2 by omega);replace f:=f.cell C (show k=0\/E≠g2 by omega);have a:=Y;refine dY (aa (ae ?_));replace l:=l.drew;replace a:=a.drew;replace b:=b.drew;replace c:=c.drew;replace f:=f.drew;refine aO (fun w'=>Blk w' g2 [iU rt,iU tk,.slice s g t,.bool jl,iU un,.bool bo,iU pe,.slice x k v,.slice a2 n2 c2,.slice a3 A c3] 28) (fun i=>decide (7<=i)) a ?_
 refine z 0 11 (pq g2 8) (zlr 1 12 [.slice a2 n2 c2] (fun _ h=>h) 8 (z 3 14 (pq g2 9) (zlr 4 15 [.slice a3 A c3] (fun _ h=>h) 9 ?_)));have y:=a.lt;have G:=b.lt;refine zc 2 13 59 #[.agg #[.slice a2 n2 c2]] (j6 (M.keep l) (by omega)) ?_
 rintro _ v12 ⟨m,d,p,H,rfl,o,I,K,B⟩;replace l:=aj l B;replace a:=a.keep B;replace b:=b.keep B;replace c:=c.keep B;replace f:=f.keep B;refine⟨_,rfl,a,?_⟩;refine z 6 17 (pq g2 8) ?_
 have y:=a.lt;have G:=b.lt;refine zc 5 16 59 #[.agg #[.slice a3 A c3]] (j6 (O.keep l) (by omega)) ?_
 rintro _ R ⟨r,j,q,F,rfl,u,L,J,B⟩;replace l:=aj l B;replace a:=a.keep B;replace b:=b.keep B;replace c:=c.keep B;replace f:=f.keep B;replace o:=o.keep B;refine⟨_,rfl,a,?_⟩;refine ec (ys 7 a 8 (.agg #[.slice m d p]) [.slice m d p] [iU rt,iU tk,.slice s g t,.bool jl,iU un,.bool bo,iU pe,.slice x k v,.slice m d p,.slice a3 A c3] ?_);intro N Y C;replace l:=aL l C (by omega);replace b:=b.chg C (show g4≠g2 by omega);replace c:=c.cell C (show g=0\/D≠g2 by omega);replace f:=f.cell C (show k=0\/E≠g2 by omega);replace o:=o.cell C (show d=0\/H≠g2 by omega);replace u:=u.cell C (show j=0\/F≠g2 by omega);have a:=Y;refine yt 8 18 (pq g2 9) (ys 9 a 9 (.agg #[.slice r j q]) [.slice r j q] [iU rt,iU tk,.slice s g t,.bool jl,iU un,.bool bo,iU pe,.slice x k v,.slice m d p,.slice r j q] ?_);intro P Y C;replace l:=aL l C (by omega);replace b:=b.chg C (show g4≠g2 by omega);replace c:=c.cell C (show g=0\/D≠g2 by omega);replace f:=f.cell C (show k=0\/E≠g2 by omega);replace o:=o.cell C (show d=0\/H≠g2 by omega);replace u:=u.cell C (show j=0\/F≠g2 by omega);have a:=Y;refine dY (aa (aD [(1,pg g2),(2,pg g4)] (ae (ah (tlr 19 [iU rt,iU tk,.slice s g t,.bool jl,iU un,.bool bo,iU pe,.slice x k v,.slice m d p,.slice r j q] a 0 (ts b 0 (.agg #[iU rt,iU tk,.slice s g t,.bool jl,iU un,.bool bo,iU pe,.slice x k v,.slice m d p,.slice r j q]) [iU rt,iU tk,.slice s g t,.bool jl,iU un,.bool bo,iU pe,.slice x k v,.slice m d p,.slice r j q] [iU rt,iU tk,.slice s g t,.bool jl,iU un,.bool bo,iU pe,.slice x k v,.slice m d p,.slice r j q] ?_))))));intro Z Y C;replace l:=aL l C (by omega);replace a:=a.chg C (show g2≠g4 by omega);replace c:=c.cell C (show g=0\/D≠g4 by omega);replace f:=f.cell C (show k=0\/E≠g4 by omega);replace o:=o.cell C (show d=0\/H≠g4 by omega);replace u:=u.cell C (show j=0\/F≠g4 by omega);have b:=Y;refine af (aa (ay (aA (.agg #[iU rt,iU tk,.slice s g t,.bool jl,iU un,.bool bo,iU pe,.slice x k v,.slice m d p,.slice r j q]) (rsc (T:=28) 2 (lr b 0)) ?_)));exact⟨_,_,_,_,_,_,_,_,_,_,_,_,_,_,_,_,rfl,c,by omega,by omega,f,by omega,by omega,o,by omega,by omega,u,by omega,by omega,l⟩
theorem shr_mk:Calls Tryz.prog 117 #[.bool false] w fun e w'=>∃ g,e=.returned (.func (.func 176) #[] #[pg g])/\Blk w' g [.func (.func 126) #[] #[]] 201/\w.heap.size<=g/\Below w.heap.size w w':=by
 have b:=Below.refl w.heap.size w;refine ax (n:=6) Tryz.func117 rfl ?_
 refine ae (ah (t 2 (.nilFunc) (af (aa (ae (ah (ta 3 [.nilFunc] 201 (pg) ?_)))))));intro v1 g2 a c B;replace b:=aj b B;refine ts a 0 (.func (.func 126) #[] #[]) [.func (.func 126) #[] #[]] [.func (.func 126) #[] #[]] ?_
 intro v3 Y C;replace b:=aL b C (by omega);have a:=Y;refine af (aa (ae (ae (ah (t 4 (bF) (af (aa (aZ (aM (aa (ae (ah (t 5 (.func (.func 176) #[] #[pg g2]) (t 2 (.func (.func 176) #[] #[pg g2]) (af (aa (ay (aA (.func (.func 176) #[] #[pg g2]) (rs1 2) ?_))))))))))))))))));exact⟨_,rfl,a,c,b⟩
theorem An{g:Nat}(E:aI w a0 n0 c0 x0)(k0:n0<=100000000000)(h1:aI w a1 n1 c1 x1)(k1:n1<=100000000000)(y:aI w a2 n2 c2 x2)(k2:n2<=100000000000)(e:Blk w g [.func (.func 126) #[] #[]] 201):Calls Tryz.prog 176 #[.agg #[.slice a0 n0 c0],.agg #[.slice a1 n1 c1],.agg #[.slice a2 n2 c2],pg g] w (NdE w (· <= n0+n1+n2) (x0 * x1 / x2)):=by
 have o:=e.lt;have j:=Below.refl w.heap.size w;refine ax (n:=19) Tryz.func176 rfl ?_
 refine ae (ah ?_);have o:=e.lt;refine ta 4 [.slice a0 n0 c0] 26 (pg) ?_
 intro v1 g2 a G B;replace j:=aj j B;replace e:=e.keep B;have o:=e.lt;have m:=a.lt;refine ta 5 [.slice a1 n1 c1] 26 (pg) ?_
 intro v3 g4 b F B;replace j:=aj j B;replace e:=e.keep B;replace a:=a.keep B;have o:=e.lt;have m:=a.lt;have p:=b.lt;refine ta 6 [.slice a2 n2 c2] 26 (pg) ?_
 intro v5 g6 c z B;replace j:=aj j B;replace e:=e.keep B;replace a:=a.keep B;replace b:=b.keep B;have o:=e.lt;have m:=a.lt;have p:=b.lt;have q:=c.lt;refine ta 7 [.slice none 0 0] 26 (pg) ?_
 intro J g8 f I B;replace j:=aj j B;replace e:=e.keep B;replace a:=a.keep B;replace b:=b.keep B;replace c:=c.keep B;refine af (aa (ae (ah (tl 11 (.func (.func 126) #[] #[]) e 0 (tlr 12 [.slice a0 n0 c0] a 0 (tlr 13 [.slice a1 n1 c1] b 0 (tlr 14 [.slice a2 n2 c2] c 0 ?_)))))));have o:=e.lt;have m:=a.lt;have p:=b.lt;have q:=c.lt;have r:=f.lt;refine tc 15 126 #[.agg #[.slice a0 n0 c0],.agg #[.slice a1 n1 c1],.agg #[.slice a2 n2 c2]] (lW (E.keep j) (by omega) (h1.keep j) (by omega) (y.keep j) (by omega)) ?_
 rintro _ v10 ⟨i,d,h,s,rfl,k,A,H,B⟩;refine⟨_,rfl,?_⟩;replace j:=aj j B;replace e:=e.keep B;replace a:=a.keep B;replace b:=b.keep B;replace c:=c.keep B;replace f:=f.keep B;refine t 10 (.tuple #[.agg #[.slice i d h],iI (dvZ x2)]) (t 16 (.agg #[.slice i d h]) (t 17 (iI (dvZ x2)) ?_));have o:=e.lt;have m:=a.lt;have p:=b.lt;have q:=c.lt;have r:=f.lt;have v:=k.lt;refine ta 8 [.slice none 0 0] 26 (pg) ?_
 intro v11 g12 l u B;replace j:=aj j B;replace e:=e.keep B;replace a:=a.keep B;replace b:=b.keep B;replace c:=c.keep B;replace f:=f.keep B;replace k:=k.keep B;refine ts l 0 (.agg #[.slice i d h]) [.slice i d h] [.slice i d h] ?_
 intro x Y C;replace j:=aL j C (by omega);replace e:=e.chg C (show g≠g12 by omega);replace a:=a.chg C (show g2≠g12 by omega);replace b:=b.chg C (show g4≠g12 by omega);replace c:=c.chg C (show g6≠g12 by omega);replace f:=f.chg C (show g8≠g12 by omega);replace k:=k.cell C (show d=0\/s≠g12 by omega);have l:=Y;refine t 9 (iI (dvZ x2)) (af (aa (aD [(7,pg g8),(8,pg g12)] (ae (ah (tlr 18 [.slice i d h] l 0 (ts f 0 (.agg #[.slice i d h]) [.slice i d h] [.slice i d h] ?_)))))));intro D Y C;replace j:=aL j C (by omega);replace e:=e.chg C (show g≠g8 by omega);replace a:=a.chg C (show g2≠g8 by omega);replace b:=b.chg C (show g4≠g8 by omega);replace c:=c.chg C (show g6≠g8 by omega);replace k:=k.cell C (show d=0\/s≠g8 by omega);replace l:=l.chg C (show g12≠g8 by omega);have f:=Y;refine af (aa (ay (aA (.agg #[.slice i d h]) (rsc (T:=26) 7 (lr f 0)) ?_)));exact⟨_,_,_,_,rfl,k,by omega,by omega,j⟩
theorem dZ{b:Bool}(h:aI w a0 n0 c0 x0)(hn:n0<=100000000000)(hb:decide (x0=0)=b):Calls Tryz.prog 72 #[.agg #[.slice a0 n0 c0]] w fun e w'=>e=.returned (.bool b)/\Below w.heap.size w w':=hb▸Ec h (by omega)
theorem xm{y:Int}(E:aI w a0 n0 c0 x0)(k0:n0<=100000000000)(h1:aI w a1 n1 c1 x1)(k1:n1<=100000000000)(hy:0<=y/\y < 18446744073709551616):Calls Tryz.prog 60 #[.int .u64 y,.agg #[.slice a0 n0 c0],.agg #[.slice a1 n1 c1]] w (NdE w (· <= n0+n1+40) (x1 * (y * U36) / x0)):=by
 have e:=Below.refl w.heap.size w;refine ax (n:=18) Tryz.func60 rfl ?_
 refine ae (ah (ta 4 [.slice a0 n0 c0] 26 (pg) ?_));intro v1 g2 a O B;replace e:=aj e B;have f:=a.lt;refine ta 5 [.slice a1 n1 c1] 26 (pg) ?_
 intro v3 g4 c N B;replace e:=aj e B;replace a:=a.keep B;have f:=a.lt;have j:=c.lt;refine ta 6 [.slice none 0 0] 26 (pg) ?_
 intro v5 g6 d L B;replace e:=aj e B;replace a:=a.keep B;replace c:=c.keep B;refine af (aa (ae (ae (ah (tlr 8 [.slice a0 n0 c0] a 0 ?_)))));by_cases A:x0=0
 ·have f:=a.lt;have j:=c.lt;have m:=d.lt;refine tc 9 72 #[.agg #[.slice a0 n0 c0]] (dZ (E.keep e) (by omega) (b:=true) (decide_eq_true A)) ?_
  rintro _ P ⟨rfl,B⟩;refine⟨_,rfl,?_⟩;replace e:=aj e B;replace a:=a.keep B;replace c:=c.keep B;replace d:=d.keep B;refine af (aa (bJ (ae (ah (t 10 (.agg #[.slice none 0 0]) (ts d 0 (.agg #[.slice none 0 0]) [.slice none 0 0] [.slice none 0 0] ?_))))));intro Q Y C;replace e:=aL e C (by omega);replace a:=a.chg C (show g2≠g6 by omega);replace c:=c.chg C (show g4≠g6 by omega);have d:=Y;refine af (aa (ay (dD (aA (.agg #[.slice none 0 0]) (rsc (T:=26) 6 (lr d 0)) ?_))));subst A;rw[Int.ediv_zero];exact⟨_,_,_,0,rfl,gK _ 0,.inl rfl,by omega,e⟩
 ·have f:=a.lt;have j:=c.lt;have m:=d.lt;refine tc 9 72 #[.agg #[.slice a0 n0 c0]] (dZ (E.keep e) (by omega) (b:=false) (decide_eq_false A)) ?_
  rintro _ v9 ⟨rfl,B⟩;refine⟨_,rfl,?_⟩;replace e:=aj e B;replace a:=a.keep B;replace c:=c.keep B;replace d:=d.keep B;refine af (aa (aZ (aM (aa (ae (ah ?_))))));have f:=a.lt;have j:=c.lt;have m:=d.lt;refine tc 11 117 #[bF] (shr_mk) ?_
  rintro _ v10 ⟨g,rfl,q,R,B⟩;refine⟨_,rfl,?_⟩;replace e:=aj e B;replace a:=a.keep B;replace c:=c.keep B;replace d:=d.keep B;refine t 7 (.func (.func 176) #[] #[pg g]) (af (aa (ae ?_)));replace e:=e.drew;replace a:=a.drew;replace c:=c.drew;replace d:=d.drew;replace q:=q.drew;refine aO (fun J=>Blk J g4 [.slice a1 n1 c1] 26/\Blk J g2 [.slice a0 n0 c0] 26) (fun _=>false) ⟨c,a⟩ ?_
  refine z 0 12 (.func (.func 176) #[] #[pg g]) (zlr 1 13 [.slice a1 n1 c1] (fun _ h=>h.1) 0 (z 2 14 (iU y) (zlr 4 16 [.slice a0 n0 c0] (fun _ h=>h.2) 0 ?_)));have f:=a.lt;have j:=c.lt;have m:=d.lt;have D:=q.lt;refine zc 3 15 19 #[iU y] (eOf hy) ?_
  rintro _ v12 ⟨s,r,v,x,rfl,i,F,H,B⟩;replace e:=aj e B;replace a:=a.keep B;replace c:=c.keep B;replace d:=d.keep B;replace q:=q.keep B;refine⟨_,rfl,⟨c,a⟩,?_⟩;have f:=a.lt;have j:=c.lt;have m:=d.lt;have D:=q.lt;refine zc 5 17 176 #[.agg #[.slice a1 n1 c1],.agg #[.slice s r v],.agg #[.slice a0 n0 c0],pg g] (An (h1.keep e) (by omega) i.nat (by omega) (E.keep e) (by omega) q) ?_
  rintro _ M ⟨o,k,l,u,rfl,p,I,G,B⟩;replace e:=aj e B;replace a:=a.keep B;replace c:=c.keep B;replace d:=d.keep B;replace q:=q.keep B;replace i:=i.keep B;refine⟨_,rfl,⟨c,a⟩,?_⟩;refine zs 6 d 0 (.agg #[.slice o k l]) [.slice o k l] [.slice o k l] ?_
  intro K Y C;replace e:=aL e C (by omega);replace a:=a.chg C (show g2≠g6 by omega);replace c:=c.chg C (show g4≠g6 by omega);replace q:=q.chg C (show g≠g6 by omega);replace i:=i.cell C (show r=0\/x≠g6 by omega);replace p:=p.cell C (show k=0\/u≠g6 by omega);have d:=Y;refine⟨⟨c,a⟩,?_⟩;refine aG (aa (aD [(6,pg g6)] (ay (aA (.agg #[.slice o k l]) (rsc (T:=26) 6 (lr d 0)) ?_))));exact⟨_,_,_,_,rfl,p,by omega,by omega,e⟩
end
end Fo
end
end Go.Proofs.YtgdohcdlkonhiaaGreatDoor
