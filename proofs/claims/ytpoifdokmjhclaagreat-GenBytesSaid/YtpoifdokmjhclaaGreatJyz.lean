import Derived.Test.YtpoifdokmjhclaaGreatJyy
set_option maxRecDepth 100000
set_option maxHeartbeats 8000000
namespace Go.Proofs.YtpoifdokmjhclaaGreat
section
namespace Fo
open Go.RowKit Go.Lib Pg Lim Gl Kv Bk Pw
theorem mk_f {w:World} {k a b:Int} (c:0<=a/\a < 18446744073709551616) (hk:16 < (Ky.frm k).1):CP 72 #[.agg #[.int .i64 k,.int .u64 a,.int .u64 b]] w λe w'=>∃ v,e=.returned (.tuple #[v,.int .i64 0])/\ByU w' v (Ky.mk k a b)/\BW w w':=qG c (by
 unfold Ky.mkE
 have f:¬ (Ky.frm k).1=0:=by omega
 have d:8 < (Ky.frm k).1:=by omega
 simp[f,d,hk])
end Fo
end
section
namespace Fo
open Go.RowKit Go.Lib Pg Lim Gl Kv Bk Pw
attribute [local go_sem] Oper.semAt_some
set_option linter.unusedVariables false
set_option linter.unusedSimpArgs false
structure Nk (w:World) (K:Nat->Prop) (z:Nat) (ao:Option Addr) (n c:Nat) (x:Int):Prop where
 lt:n=0\/z < w.heap.size
 out:n=0\/¬ K z
 to:∀ w':World,(n≠0->w'.heap[z]?=w.heap[z]?)->aW w' ao n c x
structure Nq (w:World) (K:Nat->Prop) (z:Nat) (ao:Option Addr) (n c:Nat) (x:Int):Prop where
 lt:n=0\/z < w.heap.size
 out:n=0\/¬ K z
 to:∀ w':World,(n≠0->w'.heap[z]?=w.heap[z]?)->jf w' ao n c x
section
variable {w w':World} {K K':Nat->Prop} {z n c:Nat} {ao:Option Addr} {x:Int}
theorem Nk.nat (h:Nk w K z ao n c x):aW w ao n c x:=h.to w (λ_=>rfl)
theorem Nk.keep (h:Nk w K z ao n c x) (hb:BW w w'):Nk w' K z ao n c x :=
 ⟨h.lt.imp_right λh=>Nat.lt_of_lt_of_le h hb.size,h.out,λb a=>h.to b λhn=>(a hn).trans (hb.block z (h.lt.resolve_left hn))⟩
theorem Nk.op (h:Nk w K z ao n c x) (f:∀ b,K' b->K b\/w.heap.size<=b) (hc:Chg K w w'):Nk w' K' z ao n c x:=by
 refine⟨h.lt.imp_right λh=>Nat.lt_of_lt_of_le h hc.size,?_,λg a=>h.to g λhn=>(a hn).trans (hc.same z (h.lt.resolve_left hn) (h.out.resolve_left hn))⟩;rcases h.lt with d | d
 ·exact .inl d
 refine h.out.imp_right λa e=>(f z e).elim a λi=>by omega
theorem Nq.o (h:Nq w K z ao n c x):jf w ao n c x:=h.to w (λ_=>rfl)
theorem Nq.keep (h:Nq w K z ao n c x) (hb:BW w w'):Nq w' K z ao n c x :=
 ⟨h.lt.imp_right λh=>Nat.lt_of_lt_of_le h hb.size,h.out,λb a=>h.to b λhn=>(a hn).trans (hb.block z (h.lt.resolve_left hn))⟩
theorem Nq.op (h:Nq w K z ao n c x) (f:∀ b,K' b->K b\/w.heap.size<=b) (hc:Chg K w w'):Nq w' K' z ao n c x:=by
 refine⟨h.lt.imp_right λh=>Nat.lt_of_lt_of_le h hc.size,?_,λg a=>h.to g λhn=>(a hn).trans (hc.same z (h.lt.resolve_left hn) (h.out.resolve_left hn))⟩;rcases h.lt with d | d
 ·exact .inl d
 refine h.out.imp_right λa e=>(f z e).elim a λi=>by omega
theorem Nq.cell {g:Nat} (h:Nq w K z ao n c x) (hc:Chg (·=g) w w') (a:n=0\/z≠g):Nq w' K z ao n c x :=
 ⟨h.lt.imp_right λh=>Nat.lt_of_lt_of_le h hc.size,h.out,λd b=>h.to d λhn=>(b hn).trans (hc.same z (h.lt.resolve_left hn) (a.resolve_left hn))⟩
theorem Nq.nat (h:Nq w K z ao n c x):aW w ao n c x:=h.o.a
theorem iB {B:Nat} (h:Rc.dD w B ao n c x) (f:∀ b,K b->b < B):∃ z,(n=0\/B<=z)/\Nq w K z ao n c x:=by
 obtain⟨b,o,l,e,d,j,a,g⟩:=h.ex;refine⟨b,.inr g,?_,.inr λhk=>by have:=f b hk;omega,λk hw=>⟨b,o,l,e,d,j,⟨a.loc,λi hi=>?_⟩⟩⟩
 ·rcases Nat.eq_zero_or_pos n with h | h
  ·exact .inl h
  exact .inr (aC (a.cell 0 (by omega)))
 rw[World.cell?_of_block (w:=w) (hw (by omega))];exact a.cell i hi
end
section
variable {w w':World} {K:Nat->Prop} {z k d g B n N:Nat} {a:Option Addr} {x:Int} {E:aD} {W:List aD}
theorem jW (A:Sx B w K g E W n N) (M:Nf w' z a k d x) (hz:k=0\/w.heap.size<=z):Nq w' K z a k d x :=
 ⟨M.lt,hz.imp_right λh1 h2=>by have:=A.sa.lt h2;omega,M.to⟩
theorem Nq.nk (h:Nq w K z a k d x):Nk w K z a k d x:=⟨h.lt,h.out,λw2 h2=>(h.to w2 h2).a⟩
end
section
variable {n z s g B N:Nat}{k b id p:Int}{a aH:Option Addr}{v l:List Int}{w:World}{K:Nat->Prop}{E:aD}{W:List aD}
theorem ne1(h:n=0\/z < s)(hg:s<=g):n=0\/z≠g:=h.imp_right λh=>by omega
theorem ne2(h:n=0\/s<=z)(hg:g < s):n=0\/z≠g:=h.imp_right λh=>by omega
theorem ne3{t:Nat}(h:n=0\/s<=z)(hs:t<=s):n=0\/t<=z:=h.imp_right λh=>by omega
def got(E:aD)(k:List Int):List Int:=(Kv.look E k).getD []
theorem Gg{a:Int}(hE:Ky.mkE k a b=false)(hv:v.length<=4096):gV (Ky.mk k a b) v=0:=by
 have h1:=mk_pos hE;have h2:=Ky.nV k a b;unfold gV;rw[if_neg (by omega),if_neg (by omega)]
theorem qset{kv vv:Value}{a:Int}(h:Sx B w K g E W n N)(hk:ByU w kv (Ky.mk k a b))(c:Ky.mkE k a b=false)(hv:ByU w vv v)(d:v.length<=4096)(hn:n<=4000000000000000000)(e:N+2<=100000000) :
  CP 86 #[pg g,kv,vv] w (SxE B w K g (put E (Ky.mk k a b) v) W (n+1) (N+2) (.int .i64 0)):=by
 have u:=xset h hk hv hn e;rw[Gg c d,if_pos rfl] at u;exact u
theorem lG(h:Sx B w K g E W n N)(k:List Int):(got E k).length<=1000000000:=by
 unfold got
 cases e:Kv.look E k with
 | none=>simp
 | some v=>exact(h.sa.small _ (Kv.jO e)).2
theorem mkE7(a b:Int):Ky.mkE 7 a b=false:=by
 unfold Ky.mkE;rw[show (Ky.frm 7).1=18 from rfl];simp
def hv(x y:Int):List Int:=Rc.thr (Rc.pnx (λo=>([x,y]:List Int).getD o 0)) [(2,0),(0,1)] []
def hX(l:List Int)(i:Nat):Int:=Rc.aP (Rc.gq l) i
theorem Cu(x y:Int):(hv x y).length<=600:=by have:=Rc.dA (λo=>([x,y]:List Int).getD o 0) [(2,0),(0,1)] [];simpa[hv] using this
theorem hv_oct(x y:Int):Oct (hv x y):=Rc.gX _ _ _ (λ_ h=>by simp at h)
theorem Ci{x y:Int}{c:Nat}(h:aW w a n c x)(m:n<=1000000):CP 221 #[.agg #[.slice a n c,.int .u64 y]] w λe w'=>∃ v,e=.returned v/\ByU w' v (hv x y)/\BW w w':=by
 refine(Rc.nX h m).mono ?_
 rintro e w' ⟨b,n,rfl,hn,X,hb,B⟩;exact⟨_,rfl,gQ X (hv_oct x y) hn (Nat.le_trans (Cu x y) (by decide)),B⟩
theorem Fp{v:Value}(h:ByU w v l)(d:l.length<=1000000000):CP 220 #[v] w λe w'=>∃ a0 n0 c0,e=.returned (.tuple #[.agg #[.slice a0 n0 c0,.int .u64 (hX l 1)],.int .i64 (Rc.dU (Rc.gq l))])/\(Rc.dD w' w.heap.size a0 n0 c0 (hX l 0)/\n0<=510)/\BW w w':=by
 obtain⟨b,f,c,rfl,a⟩:=bya h.byt;exact Rc.Db a d
theorem fkey{a:Int}(f:0<=a/\a < 18446744073709551616)(hk:16 < (Ky.frm k).1:=by decide):CP 219 #[iI k,iU a,iU b] w λe w'=>∃ v,e=.returned v/\ByU w' v (Ky.mk k a b)/\BW w w':=by
 have c:=Below.refl w.heap.size w;refine af (n:=18) Tryz.func219 rfl ?_
 refine sr<|tz 1<|nx<|tz 4<|tc 14 72 #[.agg #[.int .i64 k,.int .u64 a,.int .u64 b]] (mk_f f hk) ?_
 rintro _ v1 ⟨v,rfl,d,B⟩;have c:=ae c B;refine⟨_,rfl,tz 5<|nt<|aA [(6,.slice none 0 0),(7,v)]<|sr<|tz 2<|nr<|ah (v) (rs1 6) ?_⟩;exact⟨_,rfl,d,c⟩
structure FndH(B:Nat)(w:World)(K:Nat->Prop)(g:Nat)(E:aD)(W:List aD)(n N:Nat)(V:Int)(mk:Value->Value)(e:Ending)(w':World):Prop where
 ex:∃ a0 n0 c0,e=.returned (mk (.slice a0 n0 c0))/\∃ z0 K',Sx B w' K' g E W n N/\(∀ b,K' b->K b\/w.heap.size<=b)/\Chg K w w'/\Nq w' K' z0 a0 n0 c0 V/\n0<=510/\(n0=0\/w.heap.size<=z0)
abbrev hmk(r:Int)(b:Bool)(v:Value):Value:=.tuple #[.agg #[v,.int .u64 r],.bool b]
abbrev rmk(v:Value):Value:=.agg #[v]
theorem mJ(h:Sx B w K g E W n N)(z:0<=id/\id < 18446744073709551616)(hn:n+10<=4000000000000000000:=by omega)(U:N+10<=100000000:=by omega):CP 179 #[pg g,iU id,iU p] w (FndH B w K g E W (n+1) N (hX (got E (Ky.mk 7 id p)) 0) (hmk (hX (got E (Ky.mk 7 id p)) 1) (Kv.look E (Ky.mk 7 id p)).isSome)):=by
 have A:=h.at
 refine af (n:=27) Tryz.func179 rfl ?_
 refine sr<|ta 6 [.slice none 0 0,.int .u64 0] 272 (pg) ?_
 intro v1 O a t B;have G:=Nat.le_trans A.size t;have d:=A.new t;have A:=A.keep B;refine tz 1<|nx<|tz 3<|tc 16 219 #[.int .i64 7,.int .u64 id,.int .u64 p] (fkey z) ?_
 rintro _ R ⟨F,rfl,i,B⟩;have A:=A.keep B;have a:=a.keep B;refine⟨_,rfl,tc 17 39 #[pg g,F] (Cf A.sx i) ?_⟩;rintro _ Q ⟨v,rfl,x,S,D⟩;have d:=opX a d (λ_ h=>.inl h) D;replace a:=d.1;replace d:=d.2;have i:=A.byu i D;have A:=A.op S (λ_ h=>.inl h) D;refine⟨_,rfl,tz 5<|nt<|aA [(6,pg O),(7,.bool false),(8,v),(9,.bool (Kv.look E (Ky.mk 7 id p)).isSome)]<|sr<|tz 1<|tc 22 220 #[v] (Fp x (lG A.sx _)) ?_⟩;rintro _ v10 ⟨o,k,l,rfl,⟨J,y⟩,B⟩;obtain⟨M,u,e⟩:=iB J (λb hb=>A.lt hb);have m:=ne2 u a.lt;have r:=ne3 u A.size;have A:=A.keep B;have a:=a.keep B;have i:=cO i B;have x:=cO x B;refine⟨_,rfl,tz 3 ?_⟩;have H:=a.lt;refine ta 10 [.slice none 0 0,.int .u64 0] 272 (pg) ?_
 intro v11 P c f B;have s:=Nat.le_trans A.size f;have q:=A.new f;have j:=ne1 e.lt f;have A:=A.keep B;have a:=a.keep B;have i:=cO i B;have e:=e.keep B;refine tsw c [.slice o k l,.int .u64 (hX (got E (Ky.mk 7 id p)) 1)] ?_
 intro I Y C;have A:=Bk.At.cell A c C s q (by decide);have a:=a.chg C (by omega);have i:=gp i c C;have e:=e.cell C j;have c:=Y;refine tz 1<|nx<|tlr 25 [.slice o k l,.int .u64 (hX (got E (Ky.mk 7 id p)) 1)] c 0<|tz 1<|tsw a [.slice o k l,.int .u64 (hX (got E (Ky.mk 7 id p)) 1)] ?_
 intro L Y C;have A:=Bk.At.cell A a C G d (by decide);have i:=gp i a C;have e:=e.cell C m;have c:=c.chg C (by omega);have a:=Y;refine tz 1<|nr<|ah (.tuple #[.agg #[.slice o k l,.int .u64 (hX (got E (Ky.mk 7 id p)) 1)],.bool (Kv.look E (Ky.mk 7 id p)).isSome]) (dk (T:=272) 6 7 (lr a 0)) ?_
 exact⟨_,_,_,rfl,_,_,A.sx,A.km,A.cc,e,y,r⟩
theorem xK(h:Sx B w K g E W n N)(u:0<=id/\id < 18446744073709551616)(hn:n+10<=4000000000000000000)(M:N+10<=100000000):CP 284 #[pg g,iU id,iU p] w (FndH B w K g E W (n+1) N (hX (got E (Ky.mk 7 id p)) 0) rmk):=by
 have A:=h.at
 refine af (n:=18) Tryz.func284 rfl ?_
 refine sr<|ta 6 [.slice none 0 0] 55 (pg) ?_
 intro v1 G a o B;have v:=Nat.le_trans A.size o;have b:=A.new o;have A:=A.keep B;refine nx<|tz 3<|tc 13 179 #[pg g,.int .u64 id,.int .u64 p] (mJ A.sx u) ?_
 rintro _ L ⟨f,i,j,rfl,F,I,S,z,x,c,t,r⟩;have k:=ne2 r a.lt;have q:=ne3 r A.size;have b:=opX a b z x;replace a:=b.1;replace b:=b.2;have A:=A.op S z x;refine⟨_,rfl,tz 3 ?_⟩;have y:=a.lt;refine ta 7 [.slice none 0 0,.int .u64 0] 272 (pg) ?_
 intro v6 D d l B;have s:=Nat.le_trans A.size l;have m:=A.new l;have e:=ne1 c.lt l;have A:=A.keep B;have a:=a.keep B;have c:=c.keep B;refine tsw d [.slice f i j,.int .u64 (hX (got E (Ky.mk 7 id p)) 1)] ?_
 intro J Y C;have A:=Bk.At.cell A d C s m (by decide);have a:=a.chg C (by omega);have c:=c.cell C e;have d:=Y;refine tz 1<|nt<|aA [(6,pg G),(7,pg D)]<|sr<|tz 1<|tlr 17 [.slice f i j] d 0<|tsw a [.slice f i j] ?_
 intro H Y C;have A:=Bk.At.cell A a C v b (by decide);have c:=c.cell C k;have d:=d.chg C (by omega);have a:=Y;refine nr<|ah (.agg #[.slice f i j]) (rsc (T:=55) 6 (lr a 0)) ?_
 exact⟨_,_,_,rfl,_,_,A.sx,A.km,A.cc,c,t,q⟩
def xt(E:aD)(id p x r:Int):aD:=if r=0 then rem E (Ky.mk 7 id p) else put E (Ky.mk 7 id p) (hv x r)
theorem gS{r:Int}{k l C:Nat}{o:Int}(h:Sx B w K g E W n N)(t:0<=id/\id < 18446744073709551616)(c:Nk w K C aH k l o)(y:k<=1000000)(hn:n+10<=4000000000000000000)(H:N+10<=100000000):CP 180 #[pg g,iU id,iU p,.agg #[.slice aH k l,iU r]] w (SxE B w K g (xt E id p o r) W (n+1) (N+2) (.tuple #[])):=by
 have A:=h.at
 refine af (n:=23) Tryz.func180 rfl ?_
 refine sr<|ta 7 [.slice aH k l,iU r] 272 (pg) ?_
 intro v1 v a j B;have D:=Nat.le_trans A.size j;have b:=A.new j;have u:=ne1 c.lt j;have A:=A.keep B;have c:=c.keep B;refine nx<|tz 2<|tc 11 219 #[iI 7,iU id,iU p] (fkey t) ?_
 rintro _ I ⟨e,rfl,f,B⟩;have A:=A.keep B;have c:=c.keep B;have a:=a.keep B;refine⟨_,rfl,tz 1<|nt<|ag<|sr<|tz 1<|tl 13 (iU r) a 1 ?_⟩;by_cases q:(r:Int)=0
 ·refine tq 14 (.bool ((r:Int) == 0)) (bT) (congrArg Value.bool (beq_iff_eq.2 q))<|nt<|aA [(0,pg g),(7,pg v),(8,e),(14,bT)]<|aL<|sr<|tz 2<|tc 17 131 #[pg g,e] (xdel A.sx f (Nat.le_trans (Ky.nV _ _ _) (by decide))) ?_
  rintro _ F ⟨rfl,G,S,i,d⟩;have c:=c.op i d;obtain⟨a,b⟩:=gm a b i d;have f:=A.byu f d;have A:=A.op S i d;refine⟨_,rfl,nr<|bE<|ah (.tuple #[]) (rs0) ?_⟩;rw[show xt E id p o r=_ from if_pos q];exact⟨rfl,_,A.sx,A.km,A.cc⟩
 refine tq 14 (.bool ((r:Int) == 0)) (bF) (congrArg Value.bool (beq_eq_false_iff_ne.2 q))<|nt<|aA [(0,pg g),(7,pg v),(8,e),(14,bF)]<|nk<|aN<|tz 2<|tlr 20 [.slice aH k l,iU r] a 0<|tc 21 221 #[.agg #[.slice aH k l,iU r]] (Ci c.nat y) ?_
 rintro _ v11 ⟨m,rfl,s,B⟩;have A:=A.keep B;have c:=c.keep B;have a:=a.keep B;have f:=cO f B;refine⟨_,rfl,tc 22 86 #[pg g,e,m] (qset A.sx f (mkE7 id p) s (Nat.le_trans (Cu _ _) (by decide)) (by omega) (by omega)) ?_⟩;rintro _ x ⟨rfl,z,S,i,d⟩;have c:=c.op i d;obtain⟨a,b⟩:=gm a b i d;have f:=A.byu f d;have s:=A.byu s d;have A:=A.op S i d;refine⟨_,rfl,aO<|bh (.tuple #[]) (rs0) ?_⟩;rw[show xt E id p o r=_ from if_neg q];exact⟨rfl,_,A.sx,A.km,A.cc⟩
def jz(E:aD)(id p:Int):aD:=xt E id p (hX (got E (Ky.mk 7 id p)) 0) ((hX (got E (Ky.mk 7 id p)) 1+1) % 18446744073709551616)
def letE(E:aD)(id p:Int):aD:=if (Kv.look E (Ky.mk 7 id p)).isSome=true then xt E id p (hX (got E (Ky.mk 7 id p)) 0) ((hX (got E (Ky.mk 7 id p)) 1 - 1) % 18446744073709551616) else E
theorem oV(h:Sx B w K g E W n N)(k:0<=id/\id < 18446744073709551616)(hn:n+20<=4000000000000000000:=by omega)(F:N+20<=100000000:=by omega):CP 140 #[pg g,iU id,iU p] w (SxE B w K g (jz E id p) W (n+2) (N+2) (.tuple #[])):=by
 have A:=h.at
 refine af (n:=24) Tryz.func140 rfl ?_
 refine sr<|tz 3<|tc 12 179 #[pg g,iU id,iU p] (mJ A.sx k) ?_
 rintro _ D ⟨e,i,f,rfl,s,x,S,m,l,a,t,q⟩;have r:=ne3 q A.size;have A:=A.op S m l;refine⟨_,rfl,tz 3<|ta 6 [zS,iU 0] 272 (pg) ?_⟩;intro v4 u b j B;have o:=Nat.le_trans A.size j;have d:=A.new j;have c:=ne1 a.lt j;have A:=A.keep B;have a:=a.keep B;refine tsw b [.slice e i f,iU (hX (got E (Ky.mk 7 id p)) 1)] ?_
 intro v6 Y C;have A:=Bk.At.cell A b C o d (by decide);have a:=a.cell C c;have b:=Y;refine tz 1<|nt<|aA [(0,pg g),(1,iU id),(2,iU p),(6,pg u)]<|sr<|tz 1<|tl 16 (iU (hX (got E (Ky.mk 7 id p)) 1)) b 1<|tq 17 (iU (IntKind.u64.wrap ((hX (got E (Ky.mk 7 id p)) 1)+1))) (iU (((hX (got E (Ky.mk 7 id p)) 1)+1) % 18446744073709551616)) (congrArg (Value.int .u64) (IntKind.wrap_u64 _))<|tz 1<|ts b 1 (iU (((hX (got E (Ky.mk 7 id p)) 1)+1) % 18446744073709551616)) [iU (((hX (got E (Ky.mk 7 id p)) 1)+1) % 18446744073709551616)] [.slice e i f,iU (((hX (got E (Ky.mk 7 id p)) 1)+1) % 18446744073709551616)] ?_
 intro z Y C;have A:=Bk.At.cell A b C o d (by decide);have a:=a.cell C c;have b:=Y;refine nt<|aN<|tz 3<|tlr 22 [.slice e i f,iU (((hX (got E (Ky.mk 7 id p)) 1)+1) % 18446744073709551616)] b 0<|tc 23 180 #[pg g,iU id,iU p,.agg #[.slice e i f,iU (((hX (got E (Ky.mk 7 id p)) 1)+1) % 18446744073709551616)]] (gS A.sx k a.nk (by omega) (by omega) (by omega)) ?_
 rintro _ v ⟨rfl,y,S,m,l⟩;have a:=a.op m l;obtain⟨b,d⟩:=gm b d m l;have A:=A.op S m l;refine⟨_,rfl,aO<|bh (.tuple #[]) (rs0) ?_⟩;exact⟨rfl,_,A.sx,A.km,A.cc⟩
theorem FP(h:Sx B w K g E W n N)(l:0<=id/\id < 18446744073709551616)(hn:n+20<=4000000000000000000)(G:N+20<=100000000):CP 285 #[pg g,iU id,iU p] w (SxF B w K g (letE E id p) W n N (.tuple #[])):=by
 have A:=h.at
 refine af (n:=25) Tryz.func285 rfl ?_
 refine sr<|tz 3<|tc 12 179 #[pg g,iU id,iU p] (mJ A.sx l) ?_
 rintro _ D ⟨e,i,f,rfl,u,y,S,o,m,a,v,r⟩;have s:=ne3 r A.size;have A:=A.op S o m;refine⟨_,rfl,tz 3<|ta 6 [zS,iU 0] 272 (pg) ?_⟩;intro v4 x b j B;have q:=Nat.le_trans A.size j;have d:=A.new j;have c:=ne1 a.lt j;have A:=A.keep B;have a:=a.keep B;refine tsw b [.slice e i f,iU (hX (got E (Ky.mk 7 id p)) 1)] ?_
 intro v6 Y C;have A:=Bk.At.cell A b C q d (by decide);have a:=a.cell C c;have b:=Y;refine tz 1<|nt<|aA [(0,pg g),(1,iU id),(2,iU p),(6,pg x),(7,.bool (Kv.look E (Ky.mk 7 id p)).isSome)]<|sr<|t 15 (.bool (Kv.look E (Ky.mk 7 id p)).isSome)<|nt ?_
 rcases Bool.eq_false_or_eq_true ((Kv.look E (Ky.mk 7 id p)).isSome) with k | k
 ·refine aL (hc:=congrArg Value.bool k)<|sr<|tz 1<|tl 17 (iU (hX (got E (Ky.mk 7 id p)) 1)) b 1<|tq 18 (iU (IntKind.u64.wrap ((hX (got E (Ky.mk 7 id p)) 1) - 1))) (iU (((hX (got E (Ky.mk 7 id p)) 1) - 1) % 18446744073709551616)) (congrArg (Value.int .u64) (IntKind.wrap_u64 _))<|tz 1<|ts b 1 (iU (((hX (got E (Ky.mk 7 id p)) 1) - 1) % 18446744073709551616)) [iU (((hX (got E (Ky.mk 7 id p)) 1) - 1) % 18446744073709551616)] [.slice e i f,iU (((hX (got E (Ky.mk 7 id p)) 1) - 1) % 18446744073709551616)] ?_
  intro z Y C;have A:=Bk.At.cell A b C q d (by decide);have a:=a.cell C c;have b:=Y;refine nt<|aN<|tz 3<|tlr 23 [.slice e i f,iU (((hX (got E (Ky.mk 7 id p)) 1) - 1) % 18446744073709551616)] b 0<|tc 24 180 #[pg g,iU id,iU p,.agg #[.slice e i f,iU (((hX (got E (Ky.mk 7 id p)) 1) - 1) % 18446744073709551616)]] (gS A.sx l a.nk (by omega) (by omega) (by omega)) ?_
  rintro _ v10 ⟨rfl,F,S,o,m⟩;have a:=a.op o m;obtain⟨b,d⟩:=gm b d o m;have A:=A.op S o m;refine⟨_,rfl,aO<|bh (.tuple #[]) (rs0) ?_⟩;rw[show letE E id p=_ from if_pos k];exact⟨rfl,_,_,_,A.sx,by omega,by omega,A.km,A.cc⟩
 refine aX (hc:=congrArg Value.bool k)<|aT<|bh (.tuple #[]) (rs0) ?_
 rw[show letE E id p=_ from if_neg (by rw[k];decide)];exact⟨rfl,_,_,_,A.sx,by omega,by omega,A.km,A.cc⟩
end
end Fo
end
section
namespace Fo
open Go.RowKit Go.Lib Pg Lim Gl
set_option linter.unusedVariables false
set_option linter.unusedSimpArgs false
section
variable {w:World}{a0 a1 a2 a3:Option Addr}{n0 c0 n1 c1 n2 c2:Nat}{x0 x1 x2:Int}
theorem kC(h0:aW w a0 n0 c0 x0)(k0:n0<=100000000000:=by omega):CP 178 #[.agg #[.slice a0 n0 c0]] w (NdE w (· <= n0+1) (x0)):=by
 have c:=Below.refl w.heap.size w;refine af (n:=6) Tryz.func178 rfl ?_
 refine sr<|ta 1 [.slice a0 n0 c0] 55 (pg) ?_
 intro v1 r a l B;have c:=ae c B;have f:=a.lt;refine ta 2 [.slice none 0 0] 55 (pg) ?_
 intro q m b k B;have c:=ae c B;have a:=a.keep B;refine nx<|tlr 3 [.slice a0 n0 c0] a 0<|tz 1 ?_
 have f:=a.lt;have j:=b.lt;refine tc 5 185 #[.agg #[.slice a0 n0 c0],.agg #[.slice none 0 0]] (uM (h0.keep c) (jm _ 0).nat) ?_
 rintro _ v6 ⟨h,d,g,i,rfl,e,o,p,B⟩;have c:=ae c B;have a:=a.keep B;have b:=b.keep B;refine⟨_,rfl,tsw b [.slice h d g] ?_⟩;intro s Y C;have c:=aF c C;have a:=a.chg C (by omega);have e:=e.cell C (show d=0\/i≠m by omega);have b:=Y;refine nr<|ah (.agg #[.slice h d g]) (rsc (T:=55) 2 (lr b 0)) ?_
 exact⟨_,_,_,_,rfl,e.eqv (by omega),by omega,by omega,c⟩
theorem CY(h0:aW w a0 n0 c0 x0)(k0:n0<=100000000000)(h1:aW w a1 n1 c1 x1)(k1:n1<=100000000000):CP 286 #[.agg #[.slice a0 n0 c0],.agg #[.slice a1 n1 c1]] w (NdE w (· <= n0) (sL x0 x1)):=by
 have d:=Below.refl w.heap.size w;refine af (n:=14) Tryz.func286 rfl ?_
 refine sr<|ta 2 [.slice a0 n0 c0] 55 (pg) ?_
 intro v1 F a y B;have d:=ae d B;have h:=a.lt;refine ta 3 [.slice a1 n1 c1] 55 (pg) ?_
 intro E A b x B;have d:=ae d B;have a:=a.keep B;have h:=a.lt;have k:=b.lt;refine ta 4 [.slice none 0 0] 55 (pg) ?_
 intro G q c s B;have d:=ae d B;have a:=a.keep B;have b:=b.keep B;refine nx<|tlr 8 [.slice a0 n0 c0] a 0<|tlr 9 [.slice a1 n1 c1] b 0 ?_
 have h:=a.lt;have k:=b.lt;have m:=c.lt;refine tc 10 336 #[.agg #[.slice a0 n0 c0],.agg #[.slice a1 n1 c1]] (eSub (h0.keep d) (by omega) (h1.keep d) (by omega)) ?_
 rintro _ D ⟨j,g,i,l,rfl,f,v,t,B⟩;have d:=ae d B;have a:=a.keep B;have b:=b.keep B;have c:=c.keep B;refine⟨_,rfl,tz 3 ?_⟩;have h:=a.lt;have k:=b.lt;have m:=c.lt;have p:=f.lt;refine ta 5 [.slice none 0 0] 55 (pg) ?_
 intro z o e r B;have d:=ae d B;have a:=a.keep B;have b:=b.keep B;have c:=c.keep B;have f:=f.keep B;refine tsw e [.slice j g i] ?_
 intro v11 Y C;have d:=aF d C;have a:=a.chg C (by omega);have b:=b.chg C (by omega);have c:=c.chg C (by omega);have f:=f.cell C (show g=0\/l≠o by omega);have e:=Y;refine tz 1<|nt<|aA [(4,pg q),(5,pg o)]<|sr<|tlr 13 [.slice j g i] e 0<|tsw c [.slice j g i] ?_
 intro u Y C;have d:=aF d C;have a:=a.chg C (by omega);have b:=b.chg C (by omega);have f:=f.cell C (show g=0\/l≠q by omega);have e:=e.chg C (by omega);have c:=Y;refine nr<|ah (.agg #[.slice j g i]) (rsc (T:=55) 4 (lr c 0)) ?_
 exact⟨_,_,_,_,rfl,f,by omega,by omega,d⟩
theorem nZ{D c3:Nat}{x3:Int}{rt tk un pe:Int}{jl bo:Bool}(h0:aW w a0 n0 c0 x0)(h1:aW w a1 n1 c1 x1)(O:aW w a2 n2 c2 x2)(Q:aW w a3 D c3 x3)(k0:n0<=100000000000:=by omega)(k1:n1<=100000000000:=by omega)(k2:n2<=100000000000:=by omega)(k3:D<=100000000000:=by omega):CP 139 #[.agg #[iU rt,iU tk,.slice a0 n0 c0,.bool jl,iU un,.bool bo,iU pe,.slice a1 n1 c1,.slice a2 n2 c2,.slice a3 D c3]] w λe w'=>∃ b0 m0 d0 y0 b1 m1 d1 y1 b2 m2 d2 y2 b3 m3 d3 y3,e=.returned (.agg #[iU rt,iU tk,.slice b0 m0 d0,.bool jl,iU un,.bool bo,iU pe,.slice b1 m1 d1,.slice b2 m2 d2,.slice b3 m3 d3])/\Nf w' y0 b0 m0 d0 x0/\(m0=0\/w.heap.size<=y0)/\m0<=n0 + 1/\Nf w' y1 b1 m1 d1 x1/\(m1=0\/w.heap.size<=y1)/\m1<=n1 + 1/\Nf w' y2 b2 m2 d2 x2/\(m2=0\/w.heap.size<=y2)/\m2<=n2 + 1/\Nf w' y3 b3 m3 d3 x3/\(m3=0\/w.heap.size<=y3)/\m3<=D + 1/\BW w w':=by
 have g:=Below.refl w.heap.size w;refine af (n:=20) Tryz.func139 rfl ?_
 refine sr<|ta 1 [iU rt,iU tk,.slice a0 n0 c0,.bool jl,iU un,.bool bo,iU pe,.slice a1 n1 c1,.slice a2 n2 c2,.slice a3 D c3] 57 (pg) ?_
 intro v1 r a Z B;have g:=ae g B;have A:=a.lt;refine ta 2 cl4 57 (pg) ?_
 intro v3 J b X B;have g:=ae g B;have a:=a.keep B;refine nt<|ag ?_
 have g:=g.drew;have a:=a.drew;have b:=b.drew;refine dx (λw'=>Blk w' r [iU rt,iU tk,.slice a0 n0 c0,.bool jl,iU un,.bool bo,iU pe,.slice a1 n1 c1,.slice a2 n2 c2,.slice a3 D c3] 57) (λi=>decide (7<=i)) a ?_
 refine z 0 3 (pq r 2)<|zlr 1 4 [.slice a0 n0 c0] (λ_ h=>h) 2<|z 3 6 (pq r 7)<|zlr 4 7 [.slice a1 n1 c1] (λ_ h=>h) 7 ?_
 have A:=a.lt;have H:=b.lt;refine zc 2 5 178 #[.agg #[.slice a0 n0 c0]] (kC (h0.keep g)) ?_
 rintro _ v6 ⟨s,j,t,E,rfl,c,aa,ac,B⟩;have g:=ae g B;have a:=a.keep B;have b:=b.keep B;refine⟨_,rfl,a,z 6 9 (pq r 2) ?_⟩;have A:=a.lt;have H:=b.lt;refine zc 5 8 178 #[.agg #[.slice a1 n1 c1]] (kC (h1.keep g)) ?_
 rintro _ v8 ⟨y,k,x,F,rfl,d,W,S,B⟩;have g:=ae g B;have a:=a.keep B;have b:=b.keep B;have c:=c.keep B;refine⟨_,rfl,a,iK<|ys 7 a 2 (.agg #[.slice s j t]) [.slice s j t] [iU rt,iU tk,.slice s j t,.bool jl,iU un,.bool bo,iU pe,.slice a1 n1 c1,.slice a2 n2 c2,.slice a3 D c3] ?_⟩;intro v9 Y C;have g:=aF g C;have b:=b.chg C (by omega);have c:=c.cell C (show j=0\/E≠r by omega);have d:=d.cell C (show k=0\/F≠r by omega);have a:=Y;refine yt 8 10 (pq r 7)<|ys 9 a 7 (.agg #[.slice y k x]) [.slice y k x] [iU rt,iU tk,.slice s j t,.bool jl,iU un,.bool bo,iU pe,.slice y k x,.slice a2 n2 c2,.slice a3 D c3] ?_
 intro v10 Y C;have g:=aF g C;have b:=b.chg C (by omega);have c:=c.cell C (show j=0\/E≠r by omega);have d:=d.cell C (show k=0\/F≠r by omega);have a:=Y;refine iF<|aj<|ag ?_
 have g:=g.drew;have a:=a.drew;have b:=b.drew;have c:=c.drew;have d:=d.drew;refine dx (λw'=>Blk w' r [iU rt,iU tk,.slice s j t,.bool jl,iU un,.bool bo,iU pe,.slice y k x,.slice a2 n2 c2,.slice a3 D c3] 57) (λi=>decide (7<=i)) a ?_
 refine z 0 11 (pq r 8)<|zlr 1 12 [.slice a2 n2 c2] (λ_ h=>h) 8<|z 3 14 (pq r 9)<|zlr 4 15 [.slice a3 D c3] (λ_ h=>h) 9 ?_
 have A:=a.lt;have H:=b.lt;refine zc 2 13 178 #[.agg #[.slice a2 n2 c2]] (kC (O.keep g)) ?_
 rintro _ V ⟨o,f,q,I,rfl,l,K,M,B⟩;have g:=ae g B;have a:=a.keep B;have b:=b.keep B;have c:=c.keep B;have d:=d.keep B;refine⟨_,rfl,a,z 6 17 (pq r 8) ?_⟩;have A:=a.lt;have H:=b.lt;refine zc 5 16 178 #[.agg #[.slice a3 D c3]] (kC (Q.keep g)) ?_
 rintro _ U ⟨v,m,u,G,rfl,p,N,L,B⟩;have g:=ae g B;have a:=a.keep B;have b:=b.keep B;have c:=c.keep B;have d:=d.keep B;have l:=l.keep B;refine⟨_,rfl,a,iK<|ys 7 a 8 (.agg #[.slice o f q]) [.slice o f q] [iU rt,iU tk,.slice s j t,.bool jl,iU un,.bool bo,iU pe,.slice y k x,.slice o f q,.slice a3 D c3] ?_⟩;intro P Y C;have g:=aF g C;have b:=b.chg C (by omega);have c:=c.cell C (show j=0\/E≠r by omega);have d:=d.cell C (show k=0\/F≠r by omega);have l:=l.cell C (show f=0\/I≠r by omega);have p:=p.cell C (show m=0\/G≠r by omega);have a:=Y;refine yt 8 18 (pq r 9)<|ys 9 a 9 (.agg #[.slice v m u]) [.slice v m u] [iU rt,iU tk,.slice s j t,.bool jl,iU un,.bool bo,iU pe,.slice y k x,.slice o f q,.slice v m u] ?_
 intro R Y C;have g:=aF g C;have b:=b.chg C (by omega);have c:=c.cell C (show j=0\/E≠r by omega);have d:=d.cell C (show k=0\/F≠r by omega);have l:=l.cell C (show f=0\/I≠r by omega);have p:=p.cell C (show m=0\/G≠r by omega);have a:=Y;refine iF<|aj<|aA [(1,pg r),(2,pg J)]<|sr<|tlr 19 [iU rt,iU tk,.slice s j t,.bool jl,iU un,.bool bo,iU pe,.slice y k x,.slice o f q,.slice v m u] a 0<|tsw b [iU rt,iU tk,.slice s j t,.bool jl,iU un,.bool bo,iU pe,.slice y k x,.slice o f q,.slice v m u] ?_
 intro ab Y C;have g:=aF g C;have a:=a.chg C (by omega);have c:=c.cell C (show j=0\/E≠J by omega);have d:=d.cell C (show k=0\/F≠J by omega);have l:=l.cell C (show f=0\/I≠J by omega);have p:=p.cell C (show m=0\/G≠J by omega);have b:=Y;refine nr<|ah (.agg #[iU rt,iU tk,.slice s j t,.bool jl,iU un,.bool bo,iU pe,.slice y k x,.slice o f q,.slice v m u]) (rsc (T:=57) 2 (lr b 0)) ?_
 exact⟨_,_,_,_,_,_,_,_,_,_,_,_,_,_,_,_,rfl,c,by omega,by omega,d,by omega,by omega,l,by omega,by omega,p,by omega,by omega,g⟩
theorem shr_mk:CP 183 #[bF] w λe w'=>∃ g,e=.returned (.func (.func 227) #[] #[pg g])/\Blk w' g [.func (.func 225) #[] #[]] 322/\w.heap.size<=g/\BW w w':=by
 have b:=Below.refl w.heap.size w;refine af (n:=6) Tryz.func183 rfl ?_
 refine sr<|tz 1<|nx<|ta 3 [.nilFunc] 322 (pg) ?_
 intro v1 d a c B;have b:=ae b B;refine ts1 a (.func (.func 225) #[] #[]) ?_
 intro f Y C;have b:=aF b C;have a:=Y;refine nt<|ag<|sr<|tz 1<|nt<|nk<|sr<|tz 2<|nr<|ah (.func (.func 227) #[] #[pg d]) (rs1 2) ?_
 exact⟨_,rfl,a,c,b⟩
theorem Cs{g:Nat}(h0:aW w a0 n0 c0 x0)(k0:n0<=100000000000)(h1:aW w a1 n1 c1 x1)(k1:n1<=100000000000)(z:aW w a2 n2 c2 x2)(k2:n2<=100000000000)(d:Blk w g [.func (.func 225) #[] #[]] 322):CP 227 #[.agg #[.slice a0 n0 c0],.agg #[.slice a1 n1 c1],.agg #[.slice a2 n2 c2],pg g] w (NdE w (· <= n0+n1+n2) (x0 * x1 / x2)):=by
 have k:=d.lt;have f:=Below.refl w.heap.size w;refine af (n:=19) Tryz.func227 rfl ?_
 refine sr ?_
 have k:=d.lt;refine ta 4 [.slice a0 n0 c0] 55 (pg) ?_
 intro v1 O a G B;have f:=ae f B;have d:=d.keep B;have k:=d.lt;have j:=a.lt;refine ta 5 [.slice a1 n1 c1] 55 (pg) ?_
 intro M K b F B;have f:=ae f B;have d:=d.keep B;have a:=a.keep B;have k:=d.lt;have j:=a.lt;have m:=b.lt;refine ta 6 [.slice a2 n2 c2] 55 (pg) ?_
 intro N L c A B;have f:=ae f B;have d:=d.keep B;have a:=a.keep B;have b:=b.keep B;have k:=d.lt;have j:=a.lt;have m:=b.lt;have q:=c.lt;refine ta 7 [.slice none 0 0] 55 (pg) ?_
 intro J v e I B;have f:=ae f B;have d:=d.keep B;have a:=a.keep B;have b:=b.keep B;have c:=c.keep B;refine nx<|tl 11 (.func (.func 225) #[] #[]) d 0<|tlr 12 [.slice a0 n0 c0] a 0<|tlr 13 [.slice a1 n1 c1] b 0<|tlr 14 [.slice a2 n2 c2] c 0 ?_
 have k:=d.lt;have j:=a.lt;have m:=b.lt;have q:=c.lt;have r:=e.lt;refine tc 15 225 #[.agg #[.slice a0 n0 c0],.agg #[.slice a1 n1 c1],.agg #[.slice a2 n2 c2]] (EP (h0.keep f) (by omega) (h1.keep f) (by omega) (z.keep f) (by omega)) ?_
 rintro _ v10 ⟨p,l,o,s,rfl,h,D,H,B⟩;have f:=ae f B;have d:=d.keep B;have a:=a.keep B;have b:=b.keep B;have c:=c.keep B;have e:=e.keep B;refine⟨_,rfl,tz 3 ?_⟩;have k:=d.lt;have j:=a.lt;have m:=b.lt;have q:=c.lt;have r:=e.lt;have x:=h.lt;refine ta 8 [.slice none 0 0] 55 (pg) ?_
 intro v11 t i u B;have f:=ae f B;have d:=d.keep B;have a:=a.keep B;have b:=b.keep B;have c:=c.keep B;have e:=e.keep B;have h:=h.keep B;refine tsw i [.slice p l o] ?_
 intro y Y C;have f:=aF f C;have d:=d.chg C (by omega);have a:=a.chg C (by omega);have b:=b.chg C (by omega);have c:=c.chg C (by omega);have e:=e.chg C (by omega);have h:=h.cell C (show l=0\/s≠t by omega);have i:=Y;refine tz 1<|nt<|aA [(7,pg v),(8,pg t)]<|sr<|tlr 18 [.slice p l o] i 0<|tsw e [.slice p l o] ?_
 intro E Y C;have f:=aF f C;have d:=d.chg C (by omega);have a:=a.chg C (by omega);have b:=b.chg C (by omega);have c:=c.chg C (by omega);have h:=h.cell C (show l=0\/s≠v by omega);have i:=i.chg C (by omega);have e:=Y;refine nr<|ah (.agg #[.slice p l o]) (rsc (T:=55) 7 (lr e 0)) ?_
 exact⟨_,_,_,_,rfl,h,by omega,by omega,f⟩
theorem dZ{b:Bool}(h:aW w a0 n0 c0 x0)(hn:n0<=100000000000)(hb:decide (x0=0)=b):CP 181 #[.agg #[.slice a0 n0 c0]] w λe w'=>e=.returned (.bool b)/\BW w w':=hb▸dZero h (by omega)
theorem yx{y:Int}(h0:aW w a0 n0 c0 x0)(k0:n0<=100000000000)(h1:aW w a1 n1 c1 x1)(k1:n1<=100000000000)(hy:0<=y/\y < 18446744073709551616):CP 290 #[iU y,.agg #[.slice a0 n0 c0],.agg #[.slice a1 n1 c1]] w (NdE w (· <= n0+n1+40) (x1 * (y * U36) / x0)):=by
 have e:=Below.refl w.heap.size w;refine af (n:=18) Tryz.func290 rfl ?_
 refine sr<|ta 4 [.slice a0 n0 c0] 55 (pg) ?_
 intro v1 V a N B;have e:=ae e B;have f:=a.lt;refine ta 5 [.slice a1 n1 c1] 55 (pg) ?_
 intro S Q c M B;have e:=ae e B;have a:=a.keep B;have f:=a.lt;have j:=c.lt;refine ta 6 [zS] 55 (pg) ?_
 intro W D d J B;have e:=ae e B;have a:=a.keep B;have c:=c.keep B;refine nt<|ag<|sr<|tlr 8 [.slice a0 n0 c0] a 0 ?_
 by_cases x:x0=0
 ·have f:=a.lt;have j:=c.lt;have k:=d.lt;refine tc 9 181 #[.agg #[.slice a0 n0 c0]] (dZ (h0.keep e) (by omega) (b:=true) (decide_eq_true x)) ?_
  rintro _ P ⟨rfl,B⟩;have e:=ae e B;have a:=a.keep B;have c:=c.keep B;have d:=d.keep B;refine⟨_,rfl,nt<|aL<|sr<|tz 1<|tsw d [zS] ?_⟩;intro R Y C;have e:=aF e C;have a:=a.chg C (by omega);have c:=c.chg C (by omega);have d:=Y;refine nr<|bE<|ah (.agg #[zS]) (rsc (T:=55) 6 (lr d 0)) ?_
  subst x;rw[Int.ediv_zero];exact⟨_,_,_,0,rfl,jm _ 0,.inl rfl,by omega,e⟩
 have f:=a.lt;have j:=c.lt;have k:=d.lt;refine tc 9 181 #[.agg #[.slice a0 n0 c0]] (dZ (h0.keep e) (by omega) (b:=false) (decide_eq_false x)) ?_
 rintro _ O ⟨rfl,B⟩;have e:=ae e B;have a:=a.keep B;have c:=c.keep B;have d:=d.keep B;refine⟨_,rfl,nt<|nk<|sr ?_⟩;have f:=a.lt;have j:=c.lt;have k:=d.lt;refine tc 11 183 #[bF] (shr_mk) ?_
 rintro _ v10 ⟨g,rfl,m,U,B⟩;have e:=ae e B;have a:=a.keep B;have c:=c.keep B;have d:=d.keep B;refine⟨_,rfl,tz 1<|nt<|ag ?_⟩;have e:=e.drew;have a:=a.drew;have c:=c.drew;have d:=d.drew;have m:=m.drew;refine gd2 c a ?_
 refine z 0 12 (.func (.func 227) #[] #[pg g])<|zlr 1 13 [.slice a1 n1 c1] (λ_ h=>h.1) 0<|z 2 14 (iU y)<|zlr 4 16 [.slice a0 n0 c0] (λ_ h=>h.2) 0 ?_
 have f:=a.lt;have j:=c.lt;have k:=d.lt;have A:=m.lt;refine zc 3 15 182 #[iU y] (eOf hy) ?_
 rintro _ L ⟨s,r,u,v,rfl,i,E,G,B⟩;have e:=ae e B;have a:=a.keep B;have c:=c.keep B;have d:=d.keep B;have m:=m.keep B;refine⟨_,rfl,⟨c,a⟩,?_⟩;have f:=a.lt;have j:=c.lt;have k:=d.lt;have A:=m.lt;refine zc 5 17 227 #[.agg #[.slice a1 n1 c1],.agg #[.slice s r u],.agg #[.slice a0 n0 c0],pg g] (Cs (h1.keep e) (by omega) i.nat (by omega) (h0.keep e) (by omega) m) ?_
 rintro _ K ⟨q,o,p,t,rfl,l,H,F,B⟩;have e:=ae e B;have a:=a.keep B;have c:=c.keep B;have d:=d.keep B;have m:=m.keep B;have i:=i.keep B;refine⟨_,rfl,⟨c,a⟩,zsw 6 d [.slice q o p] ?_⟩;intro I Y C;have e:=aF e C;have a:=a.chg C (by omega);have c:=c.chg C (by omega);have m:=m.chg C (by omega);have i:=i.cell C (show r=0\/v≠D by omega);have l:=l.cell C (show o=0\/t≠D by omega);have d:=Y;refine⟨⟨c,a⟩,aS<|aj<|aA [(6,pg D)]<|bB<|ah (.agg #[.slice q o p]) (rsc (T:=55) 6 (lr d 0)) ?_⟩;exact⟨_,_,_,_,rfl,l,by omega,by omega,e⟩
end
end Fo
end
end Go.Proofs.YtpoifdokmjhclaaGreat
