import Derived.Test.YtpoifdokmjhclaaGreatJgq
import Derived.Test.YtpoifdokmjhclaaGreatJgv
set_option maxRecDepth 100000
set_option maxHeartbeats 8000000
namespace Go.Proofs.YtpoifdokmjhclaaGreat
section
namespace Fo
open Go.RowKit Go.Lib Pg Lim Gl Kv Bk Pw
theorem mk_f {w:World} {k a b:Int} (c:0<=a/\a < 18446744073709551616) (hk:16 < (Ky.frm k).1):Calls Tryz.prog 72 #[.agg #[.int .i64 k,.int .u64 a,.int .u64 b]] w fun e w'=>∃ v,e=.returned (.tuple #[v,.int .i64 0])/\ByU w' v (Ky.mk k a b)/\Below w.heap.size w w':=qf c (by
 unfold Ky.mkE
 have f:¬ (Ky.frm k).1=0:=by omega
 have d:8 < (Ky.frm k).1:=by omega
 simp[f,d,hk])
end Fo
end
section
namespace Fo
open Go.RowKit Go.Lib Pg Lim Gl Kv Bk Pw
attribute [local go_sem] Oper.semAt_some
set_option linter.unusedVariables false
set_option linter.unusedSimpArgs false
structure Nk (w:World) (K:Nat->Prop) (z:Nat) (ao:Option Addr) (n c:Nat) (x:Int):Prop where
 lt:n=0\/z < w.heap.size
 out:n=0\/¬ K z
 to:∀ w':World,(n≠0->w'.heap[z]?=w.heap[z]?)->aT w' ao n c x
structure Nq (w:World) (K:Nat->Prop) (z:Nat) (ao:Option Addr) (n c:Nat) (x:Int):Prop where
 lt:n=0\/z < w.heap.size
 out:n=0\/¬ K z
 to:∀ w':World,(n≠0->w'.heap[z]?=w.heap[z]?)->iT w' ao n c x
section
variable {w w':World} {K K':Nat->Prop} {z n c:Nat} {ao:Option Addr} {x:Int}
theorem Nk.nat (h:Nk w K z ao n c x):aT w ao n c x:=h.to w (fun _=>rfl)
theorem Nk.keep (h:Nk w K z ao n c x) (hb:Below w.heap.size w w'):Nk w' K z ao n c x :=
 ⟨h.lt.imp_right fun h=>Nat.lt_of_lt_of_le h hb.size,h.out,fun b a=>h.to b fun hn=>(a hn).trans (hb.block z (h.lt.resolve_left hn))⟩
theorem Nk.op (h:Nk w K z ao n c x) (f:∀ b,K' b->K b\/w.heap.size<=b) (hc:Chg K w w'):Nk w' K' z ao n c x:=by
 refine⟨h.lt.imp_right fun h=>Nat.lt_of_lt_of_le h hc.size,?_,fun g a=>h.to g fun hn=>(a hn).trans (hc.same z (h.lt.resolve_left hn) (h.out.resolve_left hn))⟩;rcases h.lt with d | d
 ·exact .inl d
 ·refine h.out.imp_right fun a e=>(f z e).elim a fun i=>by omega
theorem Nq.o (h:Nq w K z ao n c x):iT w ao n c x:=h.to w (fun _=>rfl)
theorem Nq.keep (h:Nq w K z ao n c x) (hb:Below w.heap.size w w'):Nq w' K z ao n c x :=
 ⟨h.lt.imp_right fun h=>Nat.lt_of_lt_of_le h hb.size,h.out,fun b a=>h.to b fun hn=>(a hn).trans (hb.block z (h.lt.resolve_left hn))⟩
theorem Nq.op (h:Nq w K z ao n c x) (f:∀ b,K' b->K b\/w.heap.size<=b) (hc:Chg K w w'):Nq w' K' z ao n c x:=by
 refine⟨h.lt.imp_right fun h=>Nat.lt_of_lt_of_le h hc.size,?_,fun g a=>h.to g fun hn=>(a hn).trans (hc.same z (h.lt.resolve_left hn) (h.out.resolve_left hn))⟩;rcases h.lt with d | d
 ·exact .inl d
 ·refine h.out.imp_right fun a e=>(f z e).elim a fun i=>by omega
theorem Nq.cell {g:Nat} (h:Nq w K z ao n c x) (hc:Chg (·=g) w w') (a:n=0\/z≠g):Nq w' K z ao n c x :=
 ⟨h.lt.imp_right fun h=>Nat.lt_of_lt_of_le h hc.size,h.out,fun d b=>h.to d fun hn=>(b hn).trans (hc.same z (h.lt.resolve_left hn) (a.resolve_left hn))⟩
theorem Nq.nat (h:Nq w K z ao n c x):aT w ao n c x:=h.o.a
theorem iq {B:Nat} (h:Rc.du w B ao n c x) (f:∀ b,K b->b < B):∃ z,(n=0\/B<=z)/\Nq w K z ao n c x:=by
 obtain⟨b,o,l,e,d,j,a,g⟩:=h.ex;refine⟨b,.inr g,?_,.inr fun hk=>by have:=f b hk;omega,fun k hw=>⟨b,o,l,e,d,j,⟨a.loc,fun i hi=>?_⟩⟩⟩
 ·rcases Nat.eq_zero_or_pos n with h | h
  ·exact .inl h
  ·exact .inr (aE (a.cell 0 (by omega)))
 ·rw[World.cell?_of_block (w:=w) (hw (by omega))];exact a.cell i hi
end
section
variable {w w':World} {K:Nat->Prop} {z k d g B n N:Nat} {a:Option Addr} {x:Int} {E:aA} {W:List aA}
theorem jG (A:Sx B w K g E W n N) (M:Nf w' z a k d x) (hz:k=0\/w.heap.size<=z):Nq w' K z a k d x :=
 ⟨M.lt,hz.imp_right fun h1 h2=>by have:=A.sa.lt h2;omega,M.to⟩
theorem Nq.nk (h:Nq w K z a k d x):Nk w K z a k d x:=⟨h.lt,h.out,fun w2 h2=>(h.to w2 h2).a⟩
end
section
variable {n z s g B N:Nat}{k b id p:Int}{a aH:Option Addr}{v l:List Int}{w:World}{K:Nat->Prop}{E:aA}{W:List aA}
theorem ne1(h:n=0\/z < s)(hg:s<=g):n=0\/z≠g:=h.imp_right fun h=>by omega
theorem ne2(h:n=0\/s<=z)(hg:g < s):n=0\/z≠g:=h.imp_right fun h=>by omega
theorem ne3{t:Nat}(h:n=0\/s<=z)(hs:t<=s):n=0\/t<=z:=h.imp_right fun h=>by omega
def got(E:aA)(k:List Int):List Int:=(Kv.look E k).getD []
theorem EY{a:Int}(hE:Ky.mkE k a b=false)(hv:v.length<=4096):gK (Ky.mk k a b) v=0:=by
 have h1:=mk_pos hE;have h2:=Ky.nh k a b;unfold gK;rw[if_neg (by omega),if_neg (by omega)]
theorem qset{kv vv:Value}{a:Int}(h:Sx B w K g E W n N)(hk:ByU w kv (Ky.mk k a b))(c:Ky.mkE k a b=false)(hv:ByU w vv v)(d:v.length<=4096)(hn:n<=4000000000000000000)(e:N+2<=100000000) :
  Calls Tryz.prog 86 #[pg g,kv,vv] w (SxE B w K g (put E (Ky.mk k a b) v) W (n+1) (N+2) (.int .i64 0)):=by
 have u:=xset h hk hv hn e;rw[EY c d,if_pos rfl] at u;exact u
theorem kQ(h:Sx B w K g E W n N)(k:List Int):(got E k).length<=1000000000:=by
 unfold got
 cases e:Kv.look E k with
 | none=>simp
 | some v=>exact(h.sa.small _ (Kv.jA e)).2
theorem mkE7(a b:Int):Ky.mkE 7 a b=false:=by
 unfold Ky.mkE;rw[show (Ky.frm 7).1=18 from rfl];simp
def hv(x y:Int):List Int:=Rc.thr (Rc.pnx (fun o=>([x,y]:List Int).getD o 0)) [(2,0),(0,1)] []
def hX(l:List Int)(i:Nat):Int:=Rc.aR (Rc.fV l) i
theorem Bv(x y:Int):(hv x y).length<=600:=by have:=Rc.dn (fun o=>([x,y]:List Int).getD o 0) [(2,0),(0,1)] [];simpa[hv] using this
theorem hv_oct(x y:Int):Oct (hv x y):=Rc.gM _ _ _ (fun _ h=>by simp at h)
theorem Bh{x y:Int}{c:Nat}(h:aT w a n c x)(m:n<=1000000):Calls Tryz.prog 221 #[.agg #[.slice a n c,.int .u64 y]] w fun e w'=>∃ v,e=.returned v/\ByU w' v (hv x y)/\Below w.heap.size w w':=by
 refine(Rc.nm h m).mono ?_
 rintro e w' ⟨b,n,rfl,hn,X,hb,B⟩;exact⟨_,rfl,gC X (hv_oct x y) hn (Nat.le_trans (Bv x y) (by decide)),B⟩
theorem Eh{v:Value}(h:ByU w v l)(d:l.length<=1000000000):Calls Tryz.prog 220 #[v] w fun e w'=>∃ a0 n0 c0,e=.returned (.tuple #[.agg #[.slice a0 n0 c0,.int .u64 (hX l 1)],.int .i64 (Rc.gS (Rc.fV l))])/\(Rc.du w' w.heap.size a0 n0 c0 (hX l 0)/\n0<=510)/\Below w.heap.size w w':=by
 obtain⟨b,f,c,rfl,a⟩:=bya h.byt;exact Rc.Ci a d
theorem fkey{a:Int}(f:0<=a/\a < 18446744073709551616)(hk:16 < (Ky.frm k).1):Calls Tryz.prog 219 #[.int .i64 k,.int .u64 a,.int .u64 b] w fun e w'=>∃ v,e=.returned v/\ByU w' v (Ky.mk k a b)/\Below w.heap.size w w':=by
 have c:=Below.refl w.heap.size w;refine af (n:=18) Tryz.func219 rfl ?_
 refine sr<|tz 1<|nx<|tz 4<|tc 14 72 #[.agg #[.int .i64 k,.int .u64 a,.int .u64 b]] (mk_f f hk) ?_
 rintro _ v1 ⟨v,rfl,d,B⟩;refine⟨_,rfl,?_⟩;replace c:=ae c B;clear B;refine tz 5<|nt<|ay [(6,.slice none 0 0),(7,v)]<|sr<|tz 2<|nr<|ah (v) (rs1 6) ?_
 exact⟨_,rfl,d,c⟩
structure FndH(B:Nat)(w:World)(K:Nat->Prop)(g:Nat)(E:aA)(W:List aA)(n N:Nat)(V:Int)(mk:Value->Value)(e:Ending)(w':World):Prop where
 ex:∃ a0 n0 c0,e=.returned (mk (.slice a0 n0 c0))/\∃ z0 K',Sx B w' K' g E W n N/\(∀ b,K' b->K b\/w.heap.size<=b)/\Chg K w w'/\Nq w' K' z0 a0 n0 c0 V/\n0<=510/\(n0=0\/w.heap.size<=z0)
abbrev hmk(r:Int)(b:Bool)(v:Value):Value:=.tuple #[.agg #[v,.int .u64 r],.bool b]
abbrev rmk(v:Value):Value:=.agg #[v]
theorem l7(h:Sx B w K g E W n N)(F:0<=id/\id < 18446744073709551616)(hn:n+10<=4000000000000000000)(U:N+10<=100000000):Calls Tryz.prog 179 #[pg g,.int .u64 id,.int .u64 p] w (FndH B w K g E W (n+1) N (hX (got E (Ky.mk 7 id p)) 0) (hmk (hX (got E (Ky.mk 7 id p)) 1) (Kv.look E (Ky.mk 7 id p)).isSome)):=by
 have A:=h.at
 refine af (n:=27) Tryz.func179 rfl ?_
 refine sr<|ta 6 [.slice none 0 0,.int .u64 0] 272 (pg) ?_
 intro v1 G a u B;have I:=Nat.le_trans A.size u;have d:=A.new u;replace A:=A.keep B;clear B;refine tz 1<|nx<|tz 3<|tc 16 219 #[.int .i64 7,.int .u64 id,.int .u64 p] (fkey F (by decide)) ?_
 rintro _ R ⟨H,rfl,i,B⟩;refine⟨_,rfl,?_⟩;replace A:=A.keep B;replace a:=a.keep B;clear B;refine tc 17 39 #[pg g,H] (Be A.sx i (by omega) (by omega)) ?_
 rintro _ Q ⟨x,rfl,y,S,z⟩;refine⟨_,rfl,?_⟩;replace d:=opX a d (fun _ h=>.inl h) z;replace a:=d.1;replace d:=d.2;replace i:=A.byu i z;replace A:=A.op S (fun _ h=>.inl h) z;clear S z;refine tz 5<|nt<|ay [(6,pg G),(7,.bool false),(8,x),(9,.bool (Kv.look E (Ky.mk 7 id p)).isSome)]<|sr<|tz 1<|tc 22 220 #[x] (Eh y (kQ A.sx _)) ?_
 rintro _ v10 ⟨o,k,l,rfl,⟨J,D⟩,B⟩;refine⟨_,rfl,?_⟩;obtain⟨P,r,e⟩:=iq J (fun b hb=>A.lt hb);clear J;have m:=ne2 r a.lt;have s:=ne3 r A.size;clear r;replace A:=A.keep B;replace a:=a.keep B;replace i:=cE i B;replace y:=cE y B;clear B;clear y;refine tz 3 ?_
 have L:=a.lt;refine ta 10 [.slice none 0 0,.int .u64 0] 272 (pg) ?_
 intro v11 v c f B;have t:=Nat.le_trans A.size f;have q:=A.new f;have j:=ne1 e.lt f;replace A:=A.keep B;replace a:=a.keep B;replace i:=cE i B;replace e:=e.keep B;clear B;refine tsw c [.slice o k l,.int .u64 (hX (got E (Ky.mk 7 id p)) 1)] ?_
 intro M Y C;replace A:=Bk.At.cell A c C t q (by decide);replace a:=a.chg C (show G≠v by omega);replace i:=fU i c C (by decide);replace e:=e.cell C j;clear C c;have c:=Y;clear Y;refine tz 1<|nx<|tlr 25 [.slice o k l,.int .u64 (hX (got E (Ky.mk 7 id p)) 1)] c 0<|tz 1<|tsw a [.slice o k l,.int .u64 (hX (got E (Ky.mk 7 id p)) 1)] ?_
 intro O Y C;replace A:=Bk.At.cell A a C I d (by decide);replace i:=fU i a C (by decide);replace e:=e.cell C m;replace c:=c.chg C (show v≠G by omega);clear C a;have a:=Y;clear Y;refine tz 1<|nr<|ah (.tuple #[.agg #[.slice o k l,.int .u64 (hX (got E (Ky.mk 7 id p)) 1)],.bool (Kv.look E (Ky.mk 7 id p)).isSome]) (dX (T:=272) 6 7 (lr a 0)) ?_
 exact⟨_,_,_,rfl,_,_,A.sx,A.km,A.cc,e,D,s⟩
theorem xa(h:Sx B w K g E W n N)(v:0<=id/\id < 18446744073709551616)(hn:n+10<=4000000000000000000)(M:N+10<=100000000):Calls Tryz.prog 284 #[pg g,.int .u64 id,.int .u64 p] w (FndH B w K g E W (n+1) N (hX (got E (Ky.mk 7 id p)) 0) rmk):=by
 have A:=h.at
 refine af (n:=18) Tryz.func284 rfl ?_
 refine sr<|ta 6 [.slice none 0 0] 55 (pg) ?_
 intro v1 y a q B;have D:=Nat.le_trans A.size q;have b:=A.new q;replace A:=A.keep B;clear B;refine nx<|tz 3<|tc 13 179 #[pg g,.int .u64 id,.int .u64 p] (l7 A.sx v (by omega) (by omega)) ?_
 rintro _ L ⟨f,i,j,rfl,G,I,S,z,x,c,u,m⟩;refine⟨_,rfl,?_⟩;have k:=ne2 m a.lt;have r:=ne3 m A.size;clear m;replace b:=opX a b z x;replace a:=b.1;replace b:=b.2;replace A:=A.op S z x;clear S z x;refine tz 3 ?_
 have F:=a.lt;refine ta 7 [.slice none 0 0,.int .u64 0] 272 (pg) ?_
 intro v6 s d l B;have t:=Nat.le_trans A.size l;have o:=A.new l;have e:=ne1 c.lt l;replace A:=A.keep B;replace a:=a.keep B;replace c:=c.keep B;clear B;refine tsw d [.slice f i j,.int .u64 (hX (got E (Ky.mk 7 id p)) 1)] ?_
 intro J Y C;replace A:=Bk.At.cell A d C t o (by decide);replace a:=a.chg C (show y≠s by omega);replace c:=c.cell C e;clear C d;have d:=Y;clear Y;refine tz 1<|nt<|ay [(6,pg y),(7,pg s)]<|sr<|tz 1<|tlr 17 [.slice f i j] d 0<|tsw a [.slice f i j] ?_
 intro H Y C;replace A:=Bk.At.cell A a C D b (by decide);replace c:=c.cell C k;replace d:=d.chg C (show s≠y by omega);clear C a;have a:=Y;clear Y;refine nr<|ah (.agg #[.slice f i j]) (rsc (T:=55) 6 (lr a 0)) ?_
 exact⟨_,_,_,rfl,_,_,A.sx,A.km,A.cc,c,u,r⟩
def wP(E:aA)(id p x r:Int):aA:=if r=0 then rem E (Ky.mk 7 id p) else put E (Ky.mk 7 id p) (hv x r)
theorem gG{r:Int}{k l C:Nat}{q:Int}(h:Sx B w K g E W n N)(t:0<=id/\id < 18446744073709551616)(c:Nk w K C aH k l q)(y:k<=1000000)(hn:n+10<=4000000000000000000)(H:N+10<=100000000):Calls Tryz.prog 180 #[pg g,.int .u64 id,.int .u64 p,.agg #[.slice aH k l,.int .u64 r]] w (SxE B w K g (wP E id p q r) W (n+1) (N+2) (.tuple #[])):=by
 have A:=h.at
 refine af (n:=23) Tryz.func180 rfl ?_
 refine sr<|ta 7 [.slice aH k l,iU r] 272 (pg) ?_
 intro v1 v a j B;have D:=Nat.le_trans A.size j;have b:=A.new j;have u:=ne1 c.lt j;replace A:=A.keep B;replace c:=c.keep B;refine nx<|tz 2<|tc 11 219 #[iI 7,iU id,iU p] (fkey t (by decide)) ?_
 rintro _ I ⟨f,rfl,e,B⟩;refine⟨_,rfl,?_⟩;replace A:=A.keep B;replace c:=c.keep B;replace a:=a.keep B;refine tz 1<|nt<|ag<|sr<|tz 1<|tl 13 (iU r) a 1 ?_
 by_cases s:(r:Int)=0
 ·refine tq 14 (.bool ((r:Int) == 0)) (bT) (congrArg Value.bool (beq_iff_eq.2 s))<|nt<|ay [(0,pg g),(7,pg v),(8,f),(14,bT)]<|aJ<|sr<|tz 2<|tc 17 131 #[pg g,f] (xdel A.sx e (Nat.le_trans (Ky.nh _ _ _) (by decide)) (by omega) (by omega)) ?_
  rintro _ F ⟨rfl,G,S,i,d⟩;refine⟨_,rfl,?_⟩;replace c:=c.op i d;obtain⟨a,b⟩:=fT a b i d;replace e:=A.byu e d;replace A:=A.op S i d;clear e;refine nr<|bN<|ah (.tuple #[]) (rs0) ?_
  rw[show wP E id p q r=_ from if_pos s];exact⟨rfl,_,A.sx,A.km,A.cc⟩
 ·refine tq 14 (.bool ((r:Int) == 0)) (bF) (congrArg Value.bool (beq_eq_false_iff_ne.2 s))<|nt<|ay [(0,pg g),(7,pg v),(8,f),(14,bF)]<|nk<|aN<|tz 2<|tlr 20 [.slice aH k l,iU r] a 0<|tc 21 221 #[.agg #[.slice aH k l,iU r]] (Bh c.nat y) ?_
  rintro _ v11 ⟨m,rfl,o,B⟩;refine⟨_,rfl,?_⟩;replace A:=A.keep B;replace c:=c.keep B;replace a:=a.keep B;replace e:=cE e B;refine tc 22 86 #[pg g,f,m] (qset A.sx e (mkE7 id p) o (Nat.le_trans (Bv _ _) (by decide)) (by omega) (by omega)) ?_
  rintro _ x ⟨rfl,z,S,i,d⟩;refine⟨_,rfl,?_⟩;replace c:=c.op i d;obtain⟨a,b⟩:=fT a b i d;replace e:=A.byu e d;replace o:=A.byu o d;replace A:=A.op S i d;clear e;clear o;refine aO<|aV (.tuple #[]) (rs0) ?_
  rw[show wP E id p q r=_ from if_neg s];exact⟨rfl,_,A.sx,A.km,A.cc⟩
def jk(E:aA)(id p:Int):aA:=wP E id p (hX (got E (Ky.mk 7 id p)) 0) ((hX (got E (Ky.mk 7 id p)) 1+1) % 18446744073709551616)
def letE(E:aA)(id p:Int):aA:=if (Kv.look E (Ky.mk 7 id p)).isSome=true then wP E id p (hX (got E (Ky.mk 7 id p)) 0) ((hX (got E (Ky.mk 7 id p)) 1 - 1) % 18446744073709551616) else E
theorem ow(h:Sx B w K g E W n N)(l:0<=id/\id < 18446744073709551616)(hn:n+20<=4000000000000000000)(F:N+20<=100000000):Calls Tryz.prog 140 #[pg g,.int .u64 id,.int .u64 p] w (SxE B w K g (jk E id p) W (n+2) (N+2) (.tuple #[])):=by
 have A:=h.at
 refine af (n:=24) Tryz.func140 rfl ?_
 refine sr<|tz 3<|tc 12 179 #[pg g,iU id,iU p] (l7 A.sx l (by omega) (by omega)) ?_
 rintro _ D ⟨e,i,f,rfl,s,x,S,o,m,a,t,k⟩;refine⟨_,rfl,?_⟩;have r:=ne3 k A.size;clear k;replace A:=A.op S o m;refine tz 3<|ta 6 [zS,iU 0] 272 (pg) ?_
 intro v4 u b j B;have q:=Nat.le_trans A.size j;have d:=A.new j;have c:=ne1 a.lt j;replace A:=A.keep B;replace a:=a.keep B;refine tsw b [.slice e i f,iU (hX (got E (Ky.mk 7 id p)) 1)] ?_
 intro v6 Y C;replace A:=Bk.At.cell A b C q d (by decide);replace a:=a.cell C c;have b:=Y;refine tz 1<|nt<|ay [(0,pg g),(1,iU id),(2,iU p),(6,pg u)]<|sr<|tz 1<|tl 16 (iU (hX (got E (Ky.mk 7 id p)) 1)) b 1<|tq 17 (iU (IntKind.u64.wrap ((hX (got E (Ky.mk 7 id p)) 1)+1))) (iU (((hX (got E (Ky.mk 7 id p)) 1)+1) % 18446744073709551616)) (congrArg (Value.int .u64) (IntKind.wrap_u64 _))<|tz 1<|ts b 1 (iU (((hX (got E (Ky.mk 7 id p)) 1)+1) % 18446744073709551616)) [iU (((hX (got E (Ky.mk 7 id p)) 1)+1) % 18446744073709551616)] [.slice e i f,iU (((hX (got E (Ky.mk 7 id p)) 1)+1) % 18446744073709551616)] ?_
 intro z Y C;replace A:=Bk.At.cell A b C q d (by decide);replace a:=a.cell C c;have b:=Y;refine nt<|aN<|tz 3<|tlr 22 [.slice e i f,iU (((hX (got E (Ky.mk 7 id p)) 1)+1) % 18446744073709551616)] b 0<|tc 23 180 #[pg g,iU id,iU p,.agg #[.slice e i f,iU (((hX (got E (Ky.mk 7 id p)) 1)+1) % 18446744073709551616)]] (gG A.sx l a.nk (by omega) (by omega) (by omega)) ?_
 rintro _ v ⟨rfl,y,S,o,m⟩;refine⟨_,rfl,?_⟩;replace a:=a.op o m;obtain⟨b,d⟩:=fT b d o m;replace A:=A.op S o m;refine aO<|aV (.tuple #[]) (rs0) ?_
 exact⟨rfl,_,A.sx,A.km,A.cc⟩
theorem EE(h:Sx B w K g E W n N)(m:0<=id/\id < 18446744073709551616)(hn:n+20<=4000000000000000000)(G:N+20<=100000000):Calls Tryz.prog 285 #[pg g,.int .u64 id,.int .u64 p] w (SxF B w K g (letE E id p) W n N (.tuple #[])):=by
 have A:=h.at
 refine af (n:=25) Tryz.func285 rfl ?_
 refine sr<|tz 3<|tc 12 179 #[pg g,iU id,iU p] (l7 A.sx m (by omega) (by omega)) ?_
 rintro _ D ⟨e,i,f,rfl,u,y,S,q,o,a,v,l⟩;refine⟨_,rfl,?_⟩;have s:=ne3 l A.size;clear l;replace A:=A.op S q o;refine tz 3<|ta 6 [zS,iU 0] 272 (pg) ?_
 intro v4 x b j B;have r:=Nat.le_trans A.size j;have d:=A.new j;have c:=ne1 a.lt j;replace A:=A.keep B;replace a:=a.keep B;refine tsw b [.slice e i f,iU (hX (got E (Ky.mk 7 id p)) 1)] ?_
 intro v6 Y C;replace A:=Bk.At.cell A b C r d (by decide);replace a:=a.cell C c;have b:=Y;refine tz 1<|nt<|ay [(0,pg g),(1,iU id),(2,iU p),(6,pg x),(7,.bool (Kv.look E (Ky.mk 7 id p)).isSome)]<|sr<|t 15 (.bool (Kv.look E (Ky.mk 7 id p)).isSome)<|nt ?_
 rcases Bool.eq_false_or_eq_true ((Kv.look E (Ky.mk 7 id p)).isSome) with k | k
 ·refine aJ (hc:=congrArg Value.bool k)<|sr<|tz 1<|tl 17 (iU (hX (got E (Ky.mk 7 id p)) 1)) b 1<|tq 18 (iU (IntKind.u64.wrap ((hX (got E (Ky.mk 7 id p)) 1) - 1))) (iU (((hX (got E (Ky.mk 7 id p)) 1) - 1) % 18446744073709551616)) (congrArg (Value.int .u64) (IntKind.wrap_u64 _))<|tz 1<|ts b 1 (iU (((hX (got E (Ky.mk 7 id p)) 1) - 1) % 18446744073709551616)) [iU (((hX (got E (Ky.mk 7 id p)) 1) - 1) % 18446744073709551616)] [.slice e i f,iU (((hX (got E (Ky.mk 7 id p)) 1) - 1) % 18446744073709551616)] ?_
  intro z Y C;replace A:=Bk.At.cell A b C r d (by decide);replace a:=a.cell C c;have b:=Y;refine nt<|aN<|tz 3<|tlr 23 [.slice e i f,iU (((hX (got E (Ky.mk 7 id p)) 1) - 1) % 18446744073709551616)] b 0<|tc 24 180 #[pg g,iU id,iU p,.agg #[.slice e i f,iU (((hX (got E (Ky.mk 7 id p)) 1) - 1) % 18446744073709551616)]] (gG A.sx m a.nk (by omega) (by omega) (by omega)) ?_
  rintro _ v10 ⟨rfl,F,S,q,o⟩;refine⟨_,rfl,?_⟩;replace a:=a.op q o;obtain⟨b,d⟩:=fT b d q o;replace A:=A.op S q o;refine aO<|aV (.tuple #[]) (rs0) ?_
  rw[show letE E id p=_ from if_pos k];exact⟨rfl,_,_,_,A.sx,by omega,by omega,A.km,A.cc⟩
 ·refine aY (hc:=congrArg Value.bool k)<|aU<|aV (.tuple #[]) (rs0) ?_
  rw[show letE E id p=_ from if_neg (by rw[k];decide)];exact⟨rfl,_,_,_,A.sx,by omega,by omega,A.km,A.cc⟩
end
end Fo
end
section
namespace Fo
open Go.RowKit Go.Lib Pg Lim Gl
set_option linter.unusedVariables false
set_option linter.unusedSimpArgs false
section
variable {w:World}{a0 a1 a2 a3:Option Addr}{n0 c0 n1 c1 n2 c2:Nat}{x0 x1 x2:Int}
theorem jX(l:aT w a0 n0 c0 x0)(k0:n0<=100000000000):Calls Tryz.prog 178 #[.agg #[.slice a0 n0 c0]] w (NdE w (· <= n0+1) (x0)):=by
 have c:=Below.refl w.heap.size w;refine af (n:=6) Tryz.func178 rfl ?_
 refine sr<|ta 1 [.slice a0 n0 c0] 55 (pg) ?_
 intro v1 o a p B;replace c:=ae c B;clear B;have f:=a.lt;refine ta 2 [.slice none 0 0] 55 (pg) ?_
 intro s j b m B;replace c:=ae c B;replace a:=a.keep B;clear B;refine nx<|tlr 3 [.slice a0 n0 c0] a 0<|tz 1 ?_
 have f:=a.lt;have k:=b.lt;refine tc 5 185 #[.agg #[.slice a0 n0 c0],.agg #[.slice none 0 0]] (tX (l.keep c) (by omega) (iZ _ 0).nat (by omega)) ?_
 rintro _ v6 ⟨h,d,g,i,rfl,e,q,r,B⟩;refine⟨_,rfl,?_⟩;replace c:=ae c B;replace a:=a.keep B;replace b:=b.keep B;clear B;refine tsw b [.slice h d g] ?_
 intro t Y C;replace c:=aM c C (by omega);replace a:=a.chg C (show o≠j by omega);replace e:=e.cell C (show d=0\/i≠j by omega);clear C b;have b:=Y;clear Y;refine nr<|ah (.agg #[.slice h d g]) (rsc (T:=55) 2 (lr b 0)) ?_
 exact⟨_,_,_,_,rfl,e.eqv (by omega),by omega,by omega,c⟩
theorem Cc(z:aT w a0 n0 c0 x0)(k0:n0<=100000000000)(h1:aT w a1 n1 c1 x1)(k1:n1<=100000000000):Calls Tryz.prog 286 #[.agg #[.slice a0 n0 c0],.agg #[.slice a1 n1 c1]] w (NdE w (· <= n0) (rQ x0 x1)):=by
 have e:=Below.refl w.heap.size w;refine af (n:=14) Tryz.func286 rfl ?_
 refine sr<|ta 2 [.slice a0 n0 c0] 55 (pg) ?_
 intro v1 t a D B;replace e:=ae e B;clear B;have i:=a.lt;refine ta 3 [.slice a1 n1 c1] 55 (pg) ?_
 intro G q b A B;replace e:=ae e B;replace a:=a.keep B;clear B;have i:=a.lt;have l:=b.lt;refine ta 4 [.slice none 0 0] 55 (pg) ?_
 intro H m c u B;replace e:=ae e B;replace a:=a.keep B;replace b:=b.keep B;clear B;refine nx<|tlr 8 [.slice a0 n0 c0] a 0<|tlr 9 [.slice a1 n1 c1] b 0 ?_
 have i:=a.lt;have l:=b.lt;have p:=c.lt;refine tc 10 336 #[.agg #[.slice a0 n0 c0],.agg #[.slice a1 n1 c1]] (eSub (z.keep e) (by omega) (h1.keep e) (by omega)) ?_
 rintro _ F ⟨k,g,j,o,rfl,f,y,v,B⟩;refine⟨_,rfl,?_⟩;replace e:=ae e B;replace a:=a.keep B;replace b:=b.keep B;replace c:=c.keep B;clear B;refine tz 3 ?_
 have i:=a.lt;have l:=b.lt;have p:=c.lt;have r:=f.lt;refine ta 5 [.slice none 0 0] 55 (pg) ?_
 intro E h d s B;replace e:=ae e B;replace a:=a.keep B;replace b:=b.keep B;replace c:=c.keep B;replace f:=f.keep B;clear B;refine tsw d [.slice k g j] ?_
 intro v11 Y C;replace e:=aM e C (by omega);replace a:=a.chg C (show t≠h by omega);replace b:=b.chg C (show q≠h by omega);replace c:=c.chg C (show m≠h by omega);replace f:=f.cell C (show g=0\/o≠h by omega);clear C d;have d:=Y;clear Y;refine tz 1<|nt<|ay [(4,pg m),(5,pg h)]<|sr<|tlr 13 [.slice k g j] d 0<|tsw c [.slice k g j] ?_
 intro x Y C;replace e:=aM e C (by omega);replace a:=a.chg C (show t≠m by omega);replace b:=b.chg C (show q≠m by omega);replace f:=f.cell C (show g=0\/o≠m by omega);replace d:=d.chg C (show h≠m by omega);clear C c;have c:=Y;clear Y;refine nr<|ah (.agg #[.slice k g j]) (rsc (T:=55) 4 (lr c 0)) ?_
 exact⟨_,_,_,_,rfl,f,by omega,by omega,e⟩
theorem nA{D c3:Nat}{x3:Int}{rt tk un pe:Int}{jl bo:Bool}(X:aT w a0 n0 c0 x0)(k0:n0<=100000000000)(h1:aT w a1 n1 c1 x1)(k1:n1<=100000000000)(O:aT w a2 n2 c2 x2)(k2:n2<=100000000000)(Q:aT w a3 D c3 x3)(k3:D<=100000000000):Calls Tryz.prog 139 #[.agg #[.int .u64 rt,.int .u64 tk,.slice a0 n0 c0,.bool jl,.int .u64 un,.bool bo,.int .u64 pe,.slice a1 n1 c1,.slice a2 n2 c2,.slice a3 D c3]] w fun e w'=>∃ b0 m0 d0 y0 b1 m1 d1 y1 b2 m2 d2 y2 b3 m3 d3 y3,e=.returned (.agg #[.int .u64 rt,.int .u64 tk,.slice b0 m0 d0,.bool jl,.int .u64 un,.bool bo,.int .u64 pe,.slice b1 m1 d1,.slice b2 m2 d2,.slice b3 m3 d3])/\Nf w' y0 b0 m0 d0 x0/\(m0=0\/w.heap.size<=y0)/\m0<=n0 + 1/\Nf w' y1 b1 m1 d1 x1/\(m1=0\/w.heap.size<=y1)/\m1<=n1 + 1/\Nf w' y2 b2 m2 d2 x2/\(m2=0\/w.heap.size<=y2)/\m2<=n2 + 1/\Nf w' y3 b3 m3 d3 x3/\(m3=0\/w.heap.size<=y3)/\m3<=D + 1/\Below w.heap.size w w':=by
 have g:=Below.refl w.heap.size w;refine af (n:=20) Tryz.func139 rfl ?_
 refine sr<|ta 1 [iU rt,iU tk,.slice a0 n0 c0,.bool jl,iU un,.bool bo,iU pe,.slice a1 n1 c1,.slice a2 n2 c2,.slice a3 D c3] 57 (pg) ?_
 intro v1 o a aa B;replace g:=ae g B;have A:=a.lt;refine ta 2 [iU 0,iU 0,zS,bF,iU 0,bF,iU 0,zS,zS,zS] 57 (pg) ?_
 intro v3 J b Z B;replace g:=ae g B;replace a:=a.keep B;refine nt<|ag ?_
 replace g:=g.drew;replace a:=a.drew;replace b:=b.drew;refine dS (fun w'=>Blk w' o [iU rt,iU tk,.slice a0 n0 c0,.bool jl,iU un,.bool bo,iU pe,.slice a1 n1 c1,.slice a2 n2 c2,.slice a3 D c3] 57) (fun i=>decide (7<=i)) a ?_
 refine z 0 3 (pq o 2)<|zlr 1 4 [.slice a0 n0 c0] (fun _ h=>h) 2<|z 3 6 (pq o 7)<|zlr 4 7 [.slice a1 n1 c1] (fun _ h=>h) 7 ?_
 have A:=a.lt;have H:=b.lt;refine zc 2 5 178 #[.agg #[.slice a0 n0 c0]] (jX (X.keep g) (by omega)) ?_
 rintro _ v6 ⟨s,j,t,E,rfl,c,ab,ad,B⟩;replace g:=ae g B;replace a:=a.keep B;replace b:=b.keep B;refine⟨_,rfl,a,z 6 9 (pq o 2) ?_⟩;have A:=a.lt;have H:=b.lt;refine zc 5 8 178 #[.agg #[.slice a1 n1 c1]] (jX (h1.keep g) (by omega)) ?_
 rintro _ v8 ⟨y,k,x,F,rfl,d,W,S,B⟩;replace g:=ae g B;replace a:=a.keep B;replace b:=b.keep B;replace c:=c.keep B;refine⟨_,rfl,a,iA<|ys 7 a 2 (.agg #[.slice s j t]) [.slice s j t] [iU rt,iU tk,.slice s j t,.bool jl,iU un,.bool bo,iU pe,.slice a1 n1 c1,.slice a2 n2 c2,.slice a3 D c3] ?_⟩;intro v9 Y C;replace g:=aM g C (by omega);replace b:=b.chg C (show J≠o by omega);replace c:=c.cell C (show j=0\/E≠o by omega);replace d:=d.cell C (show k=0\/F≠o by omega);have a:=Y;refine yt 8 10 (pq o 7)<|ys 9 a 7 (.agg #[.slice y k x]) [.slice y k x] [iU rt,iU tk,.slice s j t,.bool jl,iU un,.bool bo,iU pe,.slice y k x,.slice a2 n2 c2,.slice a3 D c3] ?_
 intro v10 Y C;replace g:=aM g C (by omega);replace b:=b.chg C (show J≠o by omega);replace c:=c.cell C (show j=0\/E≠o by omega);replace d:=d.cell C (show k=0\/F≠o by omega);have a:=Y;refine iv<|ai<|ag ?_
 replace g:=g.drew;replace a:=a.drew;replace b:=b.drew;replace c:=c.drew;replace d:=d.drew;refine dS (fun w'=>Blk w' o [iU rt,iU tk,.slice s j t,.bool jl,iU un,.bool bo,iU pe,.slice y k x,.slice a2 n2 c2,.slice a3 D c3] 57) (fun i=>decide (7<=i)) a ?_
 refine z 0 11 (pq o 8)<|zlr 1 12 [.slice a2 n2 c2] (fun _ h=>h) 8<|z 3 14 (pq o 9)<|zlr 4 15 [.slice a3 D c3] (fun _ h=>h) 9 ?_
 have A:=a.lt;have H:=b.lt;refine zc 2 13 178 #[.agg #[.slice a2 n2 c2]] (jX (O.keep g) (by omega)) ?_
 rintro _ V ⟨p,f,r,I,rfl,l,K,M,B⟩;replace g:=ae g B;replace a:=a.keep B;replace b:=b.keep B;replace c:=c.keep B;replace d:=d.keep B;refine⟨_,rfl,a,z 6 17 (pq o 8) ?_⟩;have A:=a.lt;have H:=b.lt;refine zc 5 16 178 #[.agg #[.slice a3 D c3]] (jX (Q.keep g) (by omega)) ?_
 rintro _ U ⟨v,m,u,G,rfl,q,N,L,B⟩;replace g:=ae g B;replace a:=a.keep B;replace b:=b.keep B;replace c:=c.keep B;replace d:=d.keep B;replace l:=l.keep B;refine⟨_,rfl,a,iA<|ys 7 a 8 (.agg #[.slice p f r]) [.slice p f r] [iU rt,iU tk,.slice s j t,.bool jl,iU un,.bool bo,iU pe,.slice y k x,.slice p f r,.slice a3 D c3] ?_⟩;intro P Y C;replace g:=aM g C (by omega);replace b:=b.chg C (show J≠o by omega);replace c:=c.cell C (show j=0\/E≠o by omega);replace d:=d.cell C (show k=0\/F≠o by omega);replace l:=l.cell C (show f=0\/I≠o by omega);replace q:=q.cell C (show m=0\/G≠o by omega);have a:=Y;refine yt 8 18 (pq o 9)<|ys 9 a 9 (.agg #[.slice v m u]) [.slice v m u] [iU rt,iU tk,.slice s j t,.bool jl,iU un,.bool bo,iU pe,.slice y k x,.slice p f r,.slice v m u] ?_
 intro R Y C;replace g:=aM g C (by omega);replace b:=b.chg C (show J≠o by omega);replace c:=c.cell C (show j=0\/E≠o by omega);replace d:=d.cell C (show k=0\/F≠o by omega);replace l:=l.cell C (show f=0\/I≠o by omega);replace q:=q.cell C (show m=0\/G≠o by omega);have a:=Y;refine iv<|ai<|ay [(1,pg o),(2,pg J)]<|sr<|tlr 19 [iU rt,iU tk,.slice s j t,.bool jl,iU un,.bool bo,iU pe,.slice y k x,.slice p f r,.slice v m u] a 0<|tsw b [iU rt,iU tk,.slice s j t,.bool jl,iU un,.bool bo,iU pe,.slice y k x,.slice p f r,.slice v m u] ?_
 intro ac Y C;replace g:=aM g C (by omega);replace a:=a.chg C (show o≠J by omega);replace c:=c.cell C (show j=0\/E≠J by omega);replace d:=d.cell C (show k=0\/F≠J by omega);replace l:=l.cell C (show f=0\/I≠J by omega);replace q:=q.cell C (show m=0\/G≠J by omega);have b:=Y;refine nr<|ah (.agg #[iU rt,iU tk,.slice s j t,.bool jl,iU un,.bool bo,iU pe,.slice y k x,.slice p f r,.slice v m u]) (rsc (T:=57) 2 (lr b 0)) ?_
 exact⟨_,_,_,_,_,_,_,_,_,_,_,_,_,_,_,_,rfl,c,by omega,by omega,d,by omega,by omega,l,by omega,by omega,q,by omega,by omega,g⟩
theorem shr_mk:Calls Tryz.prog 183 #[.bool false] w fun e w'=>∃ g,e=.returned (.func (.func 227) #[] #[pg g])/\Blk w' g [.func (.func 225) #[] #[]] 322/\w.heap.size<=g/\Below w.heap.size w w':=by
 have b:=Below.refl w.heap.size w;refine af (n:=6) Tryz.func183 rfl ?_
 refine sr<|tz 1<|nx<|ta 3 [.nilFunc] 322 (pg) ?_
 intro v1 d a c B;replace b:=ae b B;clear B;refine ts1 a (.func (.func 225) #[] #[]) ?_
 intro f Y C;replace b:=aM b C (by omega);clear C a;have a:=Y;clear Y;refine nt<|ag<|sr<|tz 1<|nt<|nk<|sr<|tz 2<|nr<|ah (.func (.func 227) #[] #[pg d]) (rs1 2) ?_
 exact⟨_,rfl,a,c,b⟩
theorem Bt{g:Nat}(I:aT w a0 n0 c0 x0)(k0:n0<=100000000000)(h1:aT w a1 n1 c1 x1)(k1:n1<=100000000000)(E:aT w a2 n2 c2 x2)(k2:n2<=100000000000)(e:Blk w g [.func (.func 225) #[] #[]] 322):Calls Tryz.prog 227 #[.agg #[.slice a0 n0 c0],.agg #[.slice a1 n1 c1],.agg #[.slice a2 n2 c2],pg g] w (NdE w (· <= n0+n1+n2) (x0 * x1 / x2)):=by
 have l:=e.lt;have h:=Below.refl w.heap.size w;refine af (n:=19) Tryz.func227 rfl ?_
 refine sr ?_
 have l:=e.lt;refine ta 4 [.slice a0 n0 c0] 55 (pg) ?_
 intro v1 z a K B;replace h:=ae h B;replace e:=e.keep B;clear B;have l:=e.lt;have k:=a.lt;refine ta 5 [.slice a1 n1 c1] 55 (pg) ?_
 intro O v b J B;replace h:=ae h B;replace e:=e.keep B;replace a:=a.keep B;clear B;have l:=e.lt;have k:=a.lt;have o:=b.lt;refine ta 6 [.slice a2 n2 c2] 55 (pg) ?_
 intro P y c F B;replace h:=ae h B;replace e:=e.keep B;replace a:=a.keep B;replace b:=b.keep B;clear B;have l:=e.lt;have k:=a.lt;have o:=b.lt;have r:=c.lt;refine ta 7 [.slice none 0 0] 55 (pg) ?_
 intro N s d M B;replace h:=ae h B;replace e:=e.keep B;replace a:=a.keep B;replace b:=b.keep B;replace c:=c.keep B;clear B;refine nx<|tl 11 (.func (.func 225) #[] #[]) e 0<|tlr 12 [.slice a0 n0 c0] a 0<|tlr 13 [.slice a1 n1 c1] b 0<|tlr 14 [.slice a2 n2 c2] c 0 ?_
 have l:=e.lt;have k:=a.lt;have o:=b.lt;have r:=c.lt;have t:=d.lt;refine tc 15 225 #[.agg #[.slice a0 n0 c0],.agg #[.slice a1 n1 c1],.agg #[.slice a2 n2 c2]] (DM (I.keep h) (by omega) (h1.keep h) (by omega) (E.keep h) (by omega)) ?_
 rintro _ v10 ⟨q,m,p,u,rfl,i,G,L,B⟩;refine⟨_,rfl,?_⟩;replace h:=ae h B;replace e:=e.keep B;replace a:=a.keep B;replace b:=b.keep B;replace c:=c.keep B;replace d:=d.keep B;clear B;refine tz 3 ?_
 have l:=e.lt;have k:=a.lt;have o:=b.lt;have r:=c.lt;have t:=d.lt;have A:=i.lt;refine ta 8 [.slice none 0 0] 55 (pg) ?_
 intro v11 j f x B;replace h:=ae h B;replace e:=e.keep B;replace a:=a.keep B;replace b:=b.keep B;replace c:=c.keep B;replace d:=d.keep B;replace i:=i.keep B;clear B;refine tsw f [.slice q m p] ?_
 intro D Y C;replace h:=aM h C (by omega);replace e:=e.chg C (show g≠j by omega);replace a:=a.chg C (show z≠j by omega);replace b:=b.chg C (show v≠j by omega);replace c:=c.chg C (show y≠j by omega);replace d:=d.chg C (show s≠j by omega);replace i:=i.cell C (show m=0\/u≠j by omega);clear C f;have f:=Y;clear Y;refine tz 1<|nt<|ay [(7,pg s),(8,pg j)]<|sr<|tlr 18 [.slice q m p] f 0<|tsw d [.slice q m p] ?_
 intro H Y C;replace h:=aM h C (by omega);replace e:=e.chg C (show g≠s by omega);replace a:=a.chg C (show z≠s by omega);replace b:=b.chg C (show v≠s by omega);replace c:=c.chg C (show y≠s by omega);replace i:=i.cell C (show m=0\/u≠s by omega);replace f:=f.chg C (show j≠s by omega);clear C d;have d:=Y;clear Y;refine nr<|ah (.agg #[.slice q m p]) (rsc (T:=55) 7 (lr d 0)) ?_
 exact⟨_,_,_,_,rfl,i,by omega,by omega,h⟩
theorem dZ{b:Bool}(h:aT w a0 n0 c0 x0)(hn:n0<=100000000000)(hb:decide (x0=0)=b):Calls Tryz.prog 181 #[.agg #[.slice a0 n0 c0]] w fun e w'=>e=.returned (.bool b)/\Below w.heap.size w w':=hb▸dZero h (by omega)
theorem xM{y:Int}(E:aT w a0 n0 c0 x0)(k0:n0<=100000000000)(h1:aT w a1 n1 c1 x1)(k1:n1<=100000000000)(hy:0<=y/\y < 18446744073709551616):Calls Tryz.prog 290 #[.int .u64 y,.agg #[.slice a0 n0 c0],.agg #[.slice a1 n1 c1]] w (NdE w (· <= n0+n1+40) (x1 * (y * U36) / x0)):=by
 have e:=Below.refl w.heap.size w;refine af (n:=18) Tryz.func290 rfl ?_
 refine sr<|ta 4 [.slice a0 n0 c0] 55 (pg) ?_
 intro v1 K a Q B;replace e:=ae e B;have f:=a.lt;refine ta 5 [.slice a1 n1 c1] 55 (pg) ?_
 intro V G c P B;replace e:=ae e B;replace a:=a.keep B;have f:=a.lt;have j:=c.lt;refine ta 6 [zS] 55 (pg) ?_
 intro X r d M B;replace e:=ae e B;replace a:=a.keep B;replace c:=c.keep B;refine nt<|ag<|sr<|tlr 8 [.slice a0 n0 c0] a 0 ?_
 by_cases A:x0=0
 ·have f:=a.lt;have j:=c.lt;have k:=d.lt;refine tc 9 181 #[.agg #[.slice a0 n0 c0]] (dZ (E.keep e) (by omega) (b:=true) (decide_eq_true A)) ?_
  rintro _ S ⟨rfl,B⟩;refine⟨_,rfl,?_⟩;replace e:=ae e B;replace a:=a.keep B;replace c:=c.keep B;replace d:=d.keep B;refine nt<|aJ<|sr<|tz 1<|tsw d [zS] ?_
  intro U Y C;replace e:=aM e C (by omega);replace a:=a.chg C (show K≠r by omega);replace c:=c.chg C (show G≠r by omega);have d:=Y;refine nr<|bN<|ah (.agg #[zS]) (rsc (T:=55) 6 (lr d 0)) ?_
  subst A;rw[Int.ediv_zero];exact⟨_,_,_,0,rfl,iZ _ 0,.inl rfl,by omega,e⟩
 ·have f:=a.lt;have j:=c.lt;have k:=d.lt;refine tc 9 181 #[.agg #[.slice a0 n0 c0]] (dZ (E.keep e) (by omega) (b:=false) (decide_eq_false A)) ?_
  rintro _ R ⟨rfl,B⟩;refine⟨_,rfl,?_⟩;replace e:=ae e B;replace a:=a.keep B;replace c:=c.keep B;replace d:=d.keep B;refine nt<|nk<|sr ?_
  have f:=a.lt;have j:=c.lt;have k:=d.lt;refine tc 11 183 #[bF] (shr_mk) ?_
  rintro _ v10 ⟨g,rfl,m,W,B⟩;refine⟨_,rfl,?_⟩;replace e:=ae e B;replace a:=a.keep B;replace c:=c.keep B;replace d:=d.keep B;refine tz 1<|nt<|ag ?_
  replace e:=e.drew;replace a:=a.drew;replace c:=c.drew;replace d:=d.drew;replace m:=m.drew;refine gd2 c a ?_
  refine z 0 12 (.func (.func 227) #[] #[pg g])<|zlr 1 13 [.slice a1 n1 c1] (fun _ h=>h.1) 0<|z 2 14 (iU y)<|zlr 4 16 [.slice a0 n0 c0] (fun _ h=>h.2) 0 ?_
  have f:=a.lt;have j:=c.lt;have k:=d.lt;have D:=m.lt;refine zc 3 15 182 #[iU y] (eOf hy) ?_
  rintro _ O ⟨t,s,v,x,rfl,i,F,I,B⟩;replace e:=ae e B;replace a:=a.keep B;replace c:=c.keep B;replace d:=d.keep B;replace m:=m.keep B;refine⟨_,rfl,⟨c,a⟩,?_⟩;have f:=a.lt;have j:=c.lt;have k:=d.lt;have D:=m.lt;refine zc 5 17 227 #[.agg #[.slice a1 n1 c1],.agg #[.slice t s v],.agg #[.slice a0 n0 c0],pg g] (Bt (h1.keep e) (by omega) i.nat (by omega) (E.keep e) (by omega) m) ?_
  rintro _ N ⟨q,o,p,u,rfl,l,J,H,B⟩;replace e:=ae e B;replace a:=a.keep B;replace c:=c.keep B;replace d:=d.keep B;replace m:=m.keep B;replace i:=i.keep B;refine⟨_,rfl,⟨c,a⟩,zsw 6 d [.slice q o p] ?_⟩;intro L Y C;replace e:=aM e C (by omega);replace a:=a.chg C (show K≠r by omega);replace c:=c.chg C (show G≠r by omega);replace m:=m.chg C (show g≠r by omega);replace i:=i.cell C (show s=0\/x≠r by omega);replace l:=l.cell C (show o=0\/u≠r by omega);have d:=Y;refine⟨⟨c,a⟩,aP<|ai<|ay [(6,pg r)]<|bh<|ah (.agg #[.slice q o p]) (rsc (T:=55) 6 (lr d 0)) ?_⟩;exact⟨_,_,_,_,rfl,l,by omega,by omega,e⟩
end
end Fo
end
end Go.Proofs.YtpoifdokmjhclaaGreat
