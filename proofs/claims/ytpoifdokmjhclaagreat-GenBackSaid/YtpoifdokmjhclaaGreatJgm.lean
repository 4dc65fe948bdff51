import Derived.Test.YtpoifdokmjhclaaGreatJgh
import Derived.Test.YtpoifdokmjhclaaGreatJgl
set_option maxRecDepth 100000
set_option maxHeartbeats 8000000
namespace Go.Proofs.YtpoifdokmjhclaaGreat
section
namespace Bk
open Go.RowKit Go.Lib Pg Lim Gl Kv
structure Sx (B:Nat) (w:World) (K:Nat->Prop) (g:Nat) (E:aA) (W:List aA) (n N:Nat):Prop where
 sa:SA w K (B <= ·) g E W n N
 lo:B<=w.heap.size
 kb:∀ b,K b->B<=b
structure SxE (B:Nat) (w:World) (K:Nat->Prop) (g:Nat) (E:aA) (W:List aA) (n N:Nat) (r:Value) (e:Ending) (w':World):Prop where
 ret:e=.returned r
 ex:∃ K',Sx B w' K' g E W n N/\(∀ b,K' b->K b\/w.heap.size<=b)/\Chg K w w'
structure SxF (B:Nat) (w:World) (K:Nat->Prop) (g:Nat) (E:aA) (W:List aA) (n N:Nat) (r:Value) (e:Ending) (w':World):Prop where
 ret:e=.returned r
 ex:∃ K' n' N',Sx B w' K' g E W n' N'/\n'<=n+10/\N'<=N+10/\(∀ b,K' b->K b\/w.heap.size<=b)/\Chg K w w'
structure At (B:Nat) (w0:World) (K0:Nat->Prop) (w:World) (K:Nat->Prop) (g:Nat) (E:aA) (W:List aA) (n N:Nat):Prop where
 sx:Sx B w K g E W n N
 km:∀ b,K b->K0 b\/w0.heap.size<=b
 cc:Chg K0 w0 w
section
variable {B:Nat} {w0 w w':World} {K0 K K':Nat->Prop} {g:Nat} {E E':aA} {W W':List aA} {n N n' N':Nat}
section
variable {x:Nat}{cs:List Value}{w w':World}{K K' K0:Nat->Prop}{W:List aA}{v r kv:Value}{l k:List Int}{args:Array Value}
theorem Sx.at(h:Sx B w K g E W n N):At B w K w K g E W n N:=⟨h,fun _ h=>.inl h,Chg.refl _ _⟩
theorem Sx.keep(h:Sx B w K g E W n N)(b:Below w.heap.size w w'):Sx B w' K g E W n N:=⟨h.sa.keep b,Nat.le_trans h.lo b.size,h.kb⟩
theorem At.keep(h:At B w0 K0 w K g E W n N)(b:Below w.heap.size w w'):At B w0 K0 w' K g E W n N:=⟨h.sx.keep b,h.km,h.cc.trans (Chg.of (F:=fun _=>False) b) (fun _ _ h=>h.elim)⟩
theorem At.drew(h:At B w0 K0 w K g E W n N):At B w0 K0 w.drew K g E W n N:=h.keep (Below.refl _ _).drew
theorem At.lt(h:At B w0 K0 w K g E W n N){b:Nat}(hb:K b):b < w.heap.size:=h.sx.sa.lt hb
theorem At.size(h:At B w0 K0 w K g E W n N):w0.heap.size<=w.heap.size:=h.cc.size
theorem At.cell{t:TypeId}(h:At B w0 K0 w K g E W n N)(X:Blk w x cs t)(C:Chg (·=x) w w')(hx:w0.heap.size<=x)(hk:¬ K x)(ht:t≠5):At B w0 K0 w' K g E W n N:=by
 refine⟨⟨h.sx.sa.chg C (fun b e hb=>hk ((show b=x from e)▸hb)) (fun b e c k=>?_),Nat.le_trans h.sx.lo C.size,h.sx.kb⟩,h.km,h.cc.trans C (fun b hb e=>by have a:b=x:=e;omega)⟩
 have a:b=x:=e;subst a;exact ht (X.eq k).2
theorem At.op(h:At B w0 K0 w K g E W n N)(d:Sx B w' K' g E' W' n' N')(c:∀ b,K' b->K b\/w.heap.size<=b)(hc:Chg K w w'):At B w0 K0 w' K' g E' W' n' N' :=
 ⟨d,fun b hb=>(c b hb).elim (h.km b) (fun a=>.inr (Nat.le_trans h.cc.size a)),h.cc.trans hc (fun b hb hk=>(h.km b hk).elim id (fun a=>by omega))⟩
theorem AG{t:TypeId}(X:Blk w x cs t)(hn:¬ K x)(hK:∀ b,K' b->K b\/w.heap.size<=b):¬ K' x:=fun h=>(hK x h).elim hn (fun h2=>by have:=X.lt;omega)
theorem opX{t:TypeId}(X:Blk w x cs t)(hn:¬ K x)(hK:∀ b,K' b->K b\/w.heap.size<=b)(C:Chg K w w'):Blk w' x cs t/\¬ K' x:=⟨X.chg C hn,AG X hn hK⟩
theorem fT{t:TypeId}(X:Blk w x cs t)(hn:¬ K x)(hK:∀ b,K' b->K b\/w.heap.size<=b)(hC:Chg K w w'):Blk w' x cs t/\¬ K' x:=⟨X.chg hC hn,AG X hn hK⟩
theorem At.new(h:At B w0 K0 w K g E W n N)(hx:w.heap.size<=x):¬ K x:=fun hk=>by have:=h.lt hk;omega
theorem At.al{B:Nat}{w0:World}{g:Nat}{E:aA}{n N:Nat}(h:At B w0 K0 w K g E W n N)(hx:w.heap.size<=x)(b:Below w.heap.size w w'):w0.heap.size<=x/\¬ K x/\At B w0 K0 w' K g E W n N:=⟨Nat.le_trans h.size hx,h.new hx,h.keep b⟩
theorem At.byu(h:At B w0 K0 w K g E W n N)(hv:ByU w v l)(C:Chg K w w'):ByU w' v l:=hv.chg C h.sx.sa.kind
theorem cE(h:ByU w v l)(b:Below w.heap.size w w'):ByU w' v l:=h.chg (K:=fun _=>False) (Chg.of b) (fun _ h=>h.elim)
theorem fU{t:TypeId}(h:ByU w v l)(X:Blk w x cs t)(C:Chg (·=x) w w')(ht:t≠5):ByU w' v l:=h.chg C (fun b e=>⟨cs,t,by have e':b=x:=e;subst e';exact X,ht⟩)
theorem Sx.bk(h:Sx B w K g E W n N)(hv:ByU w v l):BK w K v l:=fun _ hc=>(hv.chg hc h.sa.kind).byt
theorem Sx.ends{P:Nat}(h:Sx B w K g E W n N)(u:Calls Tryz.prog P args w (Kv.Ends w K (B <= ·) g E' W' n' N' r)):Calls Tryz.prog P args w (SxE B w K g E' W' n' N' r):=by
 refine u.mono ?_
 rintro e f ⟨rfl,d,c,a,hc⟩;exact⟨rfl,d,⟨c.mono (fun b _ hb=>hb.elim id (Nat.le_trans h.lo)),Nat.le_trans h.lo hc.size,fun b hb=>(a b hb).elim (h.kb b) (Nat.le_trans h.lo)⟩,a,hc⟩
theorem xset{vv:Value}{v:List Int}(h:Sx B w K g E W n N)(hk:ByU w kv k)(hv:ByU w vv v)(hn:n<=4000000000000000000)(a:N+2<=100000000) :
  Calls Tryz.prog 86 #[pg g,kv,vv] w (SxE B w K g (if gK k v=0 then put E k v else E) W (n+1) (N+2) (.int .i64 (gK k v))):=h.ends (sset h.sa (h.bk hk) (h.bk hv) hn a)
theorem xdel(h:Sx B w K g E W n N)(hk:ByU w kv k)(a:k.length<=1000000000)(hn:n<=4000000000000000000)(b:N+2<=100000000) :
  Calls Tryz.prog 131 #[pg g,kv] w (SxE B w K g (rem E k) W (n+1) (N+2) (.bool (Kv.look E k).isSome)):=h.ends (sdel h.sa (h.bk hk) a hn b)
structure GetE(B:Nat)(w:World)(K:Nat->Prop)(g:Nat)(E:aA)(W:List aA)(n N:Nat)(k:List Int)(e:Ending)(w':World):Prop where
 ex:∃ v,e=.returned (.tuple #[v,.bool (Kv.look E k).isSome])/\ByU w' v ((Kv.look E k).getD [])/\Sx B w' K g E W n N/\Chg K w w'
theorem Be(h:Sx B w K g E W n N)(hk:ByU w kv k)(hn:n<=4000000000000000000)(a:N<=100000000) :
  Calls Tryz.prog 39 #[pg g,kv] w (GetE B w K g E W (n+1) N k):=by
 refine(sget h.sa (h.bk hk) hn a).mono ?_
 rintro e b ⟨v,rfl,O,S,C⟩;exact⟨v,rfl,ByU.of O,⟨S,Nat.le_trans h.lo C.size,h.kb⟩,C⟩
end
end
section
variable {w:World}{v:Value}{l:List Int}
theorem bya(h:By w v l):∃ b ao c,v=.slice ao l.length c/\ByA w b ao l.length c l:=by
 obtain⟨ao,c,e,g,a,d,f,k⟩:=h.ex;rcases k with rfl | ⟨b,o,rfl,_,j⟩
 ·exact⟨0,ao,c,e,0,rfl,g,⟨a,d⟩,f,.inl rfl,fun i hi=>absurd hi (by simp)⟩
 ·exact⟨b,_,c,e,o,rfl,g,⟨a,d⟩,f,.inr rfl,fun i hi=>j i _ (by rw[cL hi];exact List.getElem?_eq_getElem hi)⟩
theorem gC{b n:Nat}(h:Box w b (l.map (Value.int .u8)) 5)(ho:Oct l)(hn:n=l.length)(d:l.length<=1000000):ByU w (.slice (some ⟨b,0,none⟩) n n) l:=by
 subst hn;refine⟨⟨_,_,rfl,Nat.le_refl _,by omega,fun e=>by simp at e,ho,.inr ⟨b,0,rfl,h.lt,fun i x hi=>?_⟩⟩,fun f o a c e=>?_⟩
 ·rw[Nat.zero_add];have e:=h.blk;simp[World.cell?,e,hi]
 ·simp only[Value.slice.injEq,Option.some.injEq,Addr.mk.injEq] at e;obtain⟨⟨rfl,_⟩,_⟩:=e;exact⟨_,_,h.blk⟩
def ak(id:Int):List Int:=Ky.mk 4 id 0
def pv(x y:Int):List Int:=Rc.thr (Rc.pnx (fun o=>([x,y]:List Int).getD o 0)) [(0,0),(0,1)] []
def jF(l:List Int):Int:=Rc.aR (Rc.eu l) 0
def pM(l:List Int):Int:=Rc.aR (Rc.eu l) 1
def cy(E:aA)(id:Int):Int:=jF ((Kv.look E (ak id)).getD [])
def eb(E:aA)(id:Int):Int:=pM ((Kv.look E (ak id)).getD [])
def qi(E:aA)(id x y:Int):aA:=if x=0/\y=0 then rem E (ak id) else put E (ak id) (pv x y)
abbrev isA(id:Int):Prop:=(1<=id/\id<=4)\/16<=id
abbrev fx(x k:Int):Prop:=x<=1000000000000000000/\k<=1000000000000000000 - x
theorem zY(id:Int):0 < (ak id).length/\(ak id).length<=18:=by
 refine⟨?_,Ky.nh _ _ _⟩;unfold ak;rw[Ky.mk_eq (k:=4) (n:=9) (m0:=97) (m1:=0) rfl];simp
theorem Aq(x y:Int):(pv x y).length<=600:=by have:=Rc.dn (fun o=>([x,y]:List Int).getD o 0) [(0,0),(0,1)] [];simpa[pv] using this
theorem pv_oct(x y:Int):Oct (pv x y):=Rc.gM _ _ _ (fun _ h=>by simp at h)
theorem set_ok(id x y:Int):gK (ak id) (pv x y)=0:=by
 have h1:=zY id;have h2:=Aq x y;unfold gK;rw[if_neg (by omega),if_neg (by omega)]
end
end Bk
end
section
namespace Ks
open Go.RowKit Go.Lib Pg Gl
attribute [local go_sem] Oper.semAt_some
set_option linter.unusedVariables false
set_option linter.unusedSimpArgs false
section
variable {w:World}{k m0 m1 x y a b:Int}{n:Nat}{r:Bool}{ρ:Operand->Value}
theorem fo_f(hf:Ky.frm k=((n:Int),m0,m1)):Calls Tryz.prog 105 #[.int .i64 k] w fun e w'=>e=.returned (.agg #[.int .i64 (n:Int),.int .u8 m0,.int .u8 m1])/\Below w.heap.size w w':=by
 have u:=Ky.mM (w:=w) (k:=k);rw[hf] at u;exact u
theorem CU{n:Int}(h:decide (8 < n)=r):Calls Tryz.prog 106 #[.agg #[.int .i64 n,.int .u8 x,.int .u8 y]] w fun e w'=>e=.returned (.bool r)/\Below w.heap.size w w':=by
 subst h;exact Ky.et (w:=w) (n:=n) (x:=x) (y:=y)
theorem lO{n:Int}(h:decide (16 < n)=r):Calls Tryz.prog 107 #[.agg #[.int .i64 n,.int .u8 x,.int .u8 y]] w fun e w'=>e=.returned (.bool r)/\Below w.heap.size w w':=by
 subst h;exact Ky.fS (w:=w) (n:=n) (x:=x) (y:=y)
theorem Aj(b:0<=a)(h1:a < 18446744073709551616):Calls Tryz.prog 109 #[.int .i64 k,.int .u64 a] w fun e w'=>e=.returned (.int .u64 (Ky.tn k a))/\Below w.heap.size w w':=by
 refine(Ky.gN b h1).mono ?_
 rintro e w' ⟨rfl,rfl⟩;exact⟨rfl,Below.refl _ _⟩
theorem CM{o:Oper}{n:Int}(hn:n≠0)(ho:∃ u v,o.op=.binOp .eql 204 u v 204/\ρ u=.agg #[.int .i64 n,.int .u8 m0,.int .u8 m1]/\ρ v=.agg #[.int .i64 0,.int .u8 0,.int .u8 0]:=by exact⟨_,_,rfl,by kernel_rfl,by kernel_rfl⟩):(execOp ρ o).run Tryz.prog w=.ok (.value (.bool false)) w:=by
 obtain⟨u,v,h,e1,e2⟩:=ho;simp only[execOp,h,e1,e2];go_simp
 try simp[hn]
theorem mk_n(hf:Ky.frm k=((n:Int),m0,m1))(hn:n<=18)(O:0<=m0/\m0 < 256)(h1:0<=m1/\m1 < 256)(A:0<=a/\a < 18446744073709551616)(he:(n:Int)≠0/\(a≠0->8 < (n:Int))/\(b≠0->16 < (n:Int))):Calls Tryz.prog 72 #[.agg #[.int .i64 k,.int .u64 a,.int .u64 b]] w fun e w'=>∃ v,e=.returned (.tuple #[v,.int .i64 0])/\OB w' (w.heap.size <= ·) v (Ky.mk k a b)/\Below w.heap.size w w':=by
 have f:=Below.refl w.heap.size w;refine af (n:=46) Tryz.func72 rfl ?_
 refine sr<|ta 1 [iI k,iU a,iU b] 103 (pg) ?_
 intro v1 j c t B;have Q:=Nat.le_trans f.size t;skip;replace f:=ae f B;refine tz 2<|nx<|tz 1<|tl 7 (iI k) c 0<|tc 8 105 #[iI k] (fo_f hf) ?_
 rintro _ S ⟨rfl,B⟩;refine⟨_,rfl,?_⟩;replace f:=ae f B;replace c:=c.keep B;have D:=c.lt;refine ta 4 [iI 0,.int .u8 0,.int .u8 0] 204 (pg) ?_
 intro v4 l d x B;have I:=Nat.le_trans f.size x;have p:=c.lt;replace f:=ae f B;replace c:=c.keep B;refine tsw d [iI (n:Int),.int .u8 m0,.int .u8 m1] ?_
 intro v6 Y C;replace f:=aM f C (by omega);replace c:=c.chg C (show j≠l by omega);have d:=Y;refine nt ?_
 refine vX (fun(_:Unit)=>[(1,pg j),(4,pg l),(31,bF)]) (fun _ w'=>Below w.heap.size w w'/\Blk w' j [iI k,iU a,iU b] 103/\Blk w' l [iI (n:Int),.int .u8 m0,.int .u8 m1] 204) ?_ ?_
 ·refine sr<|tlr 9 [iI (n:Int),.int .u8 m0,.int .u8 m1] d 0<|tz 1<|tr 11 (bF) (CM (n:=(n:Int)) (m0:=m0) (m1:=m1) he.1)<|tz 2<|tl 14 (iU a) c 1 ?_
  by_cases F:(a:Int)=0
  ·refine tq 15 (.bool ((a:Int) != 0)) (bF) (congrArg Value.bool (bne_eq_false_iff_eq.2 F))<|tz 1<|tn 17<|tn 18<|tn 19<|tz 4<|tl 24 (iU b) c 2 ?_
   by_cases y:(b:Int)=0
   ·exact tq 25 (.bool ((b:Int) != 0)) (bF) (congrArg Value.bool (bne_eq_false_iff_eq.2 y))<|tz 1<|tn 27<|tn 28<|tn 29<|tz 2<|nt<|ay [(1,pg j),(2,zS),(3,iI 0),(4,pg l),(31,bF)]<|aY<|aU<|ir () ⟨f,c,d⟩ (by kernel_rfl)
   ·refine tq 25 (.bool ((b:Int) != 0)) (bT) (congrArg Value.bool (bne_iff_ne.2 y))<|tz 1<|tlr 27 [iI (n:Int),.int .u8 m0,.int .u8 m1] d 0<|tc 28 107 #[.agg #[iI (n:Int),.int .u8 m0,.int .u8 m1]] (lO (r:=true) (by exact decide_eq_true (he.2.2 (by omega)))) ?_
    rintro _ V ⟨rfl,B⟩;refine⟨_,rfl,?_⟩;replace f:=ae f B;replace c:=c.keep B;replace d:=d.keep B;exact tz 3<|nt<|ay [(1,pg j),(2,zS),(3,iI 0),(4,pg l),(31,bF)]<|aY<|aU<|ir () ⟨f,c,d⟩ (by kernel_rfl)
  ·refine tq 15 (.bool ((a:Int) != 0)) (bT) (congrArg Value.bool (bne_iff_ne.2 F))<|tz 1<|tlr 17 [iI (n:Int),.int .u8 m0,.int .u8 m1] d 0<|tc 18 106 #[.agg #[iI (n:Int),.int .u8 m0,.int .u8 m1]] (CU (r:=true) (by exact decide_eq_true (he.2.1 (by omega)))) ?_
   rintro _ v10 ⟨rfl,B⟩;refine⟨_,rfl,?_⟩;replace f:=ae f B;replace c:=c.keep B;replace d:=d.keep B;refine tz 5<|tl 24 (iU b) c 2 ?_
   by_cases o:(b:Int)=0
   ·exact tq 25 (.bool ((b:Int) != 0)) (bF) (congrArg Value.bool (bne_eq_false_iff_eq.2 o))<|tz 1<|tn 27<|tn 28<|tn 29<|tz 2<|nt<|ay [(1,pg j),(2,zS),(3,iI 0),(4,pg l),(31,bF)]<|aY<|aU<|ir () ⟨f,c,d⟩ (by kernel_rfl)
   ·refine tq 25 (.bool ((b:Int) != 0)) (bT) (congrArg Value.bool (bne_iff_ne.2 o))<|tz 1<|tlr 27 [iI (n:Int),.int .u8 m0,.int .u8 m1] d 0<|tc 28 107 #[.agg #[iI (n:Int),.int .u8 m0,.int .u8 m1]] (lO (r:=true) (by exact decide_eq_true (he.2.2 (by omega)))) ?_
    rintro _ N ⟨rfl,B⟩;refine⟨_,rfl,?_⟩;replace f:=ae f B;replace c:=c.keep B;replace d:=d.keep B;exact tz 3<|nt<|ay [(1,pg j),(2,zS),(3,iI 0),(4,pg l),(31,bF)]<|aY<|aU<|ir () ⟨f,c,d⟩ (by kernel_rfl)
 clear c d f;rintro _ G ⟨f,c,d⟩;refine ag ?_
 replace f:=f.drew;replace c:=c.drew;replace d:=d.drew;refine gd2 d c ?_
 refine zlr 0 32 [iI (n:Int),.int .u8 m0,.int .u8 m1] (fun _ h=>h.1) 0<|z 1 33 (pg j)<|zl 2 34 (iI k) (fun _ h=>h.2) 0<|z 3 35 (pq j 1)<|zl 4 36 (iU a) (fun _ h=>h.2) 1<|zc 5 37 109 #[iI k,iU a] (Aj A.1 A.2) ?_
 rintro _ s ⟨rfl,B⟩;replace f:=ae f B;replace c:=c.keep B;replace d:=d.keep B;refine⟨_,rfl,⟨d,c⟩,?_⟩;obtain⟨T,q⟩:∃ T,T=(s).heap.size:=⟨_,rfl⟩
 have m:w.heap.size<=T:=by rw[q];exact f.size
 refine zc 6 38 108 #[.agg #[iI (n:Int),.int .u8 m0,.int .u8 m1],iU (Ky.tn k a)] (Ky.xE (n:=n) (a:=Ky.tn k a) (by omega) O h1) ?_
 rintro _ H ⟨u,rfl,U,B⟩;rw[<- q] at U;have L:=B.size;replace f:=ae f B;replace c:=c.keep B;replace d:=d.keep B
 have g:T<=_:=Nat.le_trans (Nat.le_of_eq q) L;refine⟨_,rfl,⟨d,c⟩,z 7 5 (u)<|aP<|ai<|ag<|sr<|tlr 39 [iI (n:Int),.int .u8 m0,.int .u8 m1] d 0 ?_⟩;by_cases i:(16:Int) < n
 ·refine tc 40 107 #[.agg #[iI (n:Int),.int .u8 m0,.int .u8 m1]] (lO (r:=true) (decide_eq_true i)) ?_
  rintro _ K ⟨rfl,B⟩;refine⟨_,rfl,?_⟩;replace f:=ae f B;replace c:=c.keep B;replace d:=d.keep B;replace U:=U.keep B;replace g:=Nat.le_trans g B.size;refine nt<|aJ<|aN<|tz 2<|tl 43 (iU b) c 2 ?_
  clear c;clear d;refine tc 44 110 #[u,iU b] (Ky.cY U g (Nat.le_trans (Ky.wh _ _) (by decide))) ?_
  rintro _ R ⟨E,rfl,P,M⟩;refine⟨_,rfl,?_⟩;replace f:=f.trans (M.mono m);clear U;refine tz 1<|nt<|ay [(5,E)]<|sr<|tz 3<|nr<|ah (.tuple #[E,iI 0]) (rs2 2 3) ?_
  refine⟨_,rfl,?_,f⟩;rw[show Ky.mk k a b=_ by unfold Ky.mk;rw[hf,if_pos (show (16:Int) < (n:Int) from i)]];exact(P).mono (fun b _ h=>Nat.le_trans m h)
 ·refine tc 40 107 #[.agg #[iI (n:Int),.int .u8 m0,.int .u8 m1]] (lO (r:=false) (decide_eq_false i)) ?_
  rintro _ J ⟨rfl,B⟩;refine⟨_,rfl,?_⟩;replace f:=ae f B;replace c:=c.keep B;replace d:=d.keep B;replace U:=U.keep B;replace g:=Nat.le_trans g B.size;refine nt<|nk<|sr<|tz 3<|nt<|ay [(2,u),(3,iI 0)]<|bh<|ah (.tuple #[u,iI 0]) (rs2 2 3) ?_
  refine⟨_,rfl,?_,f⟩;rw[show Ky.mk k a b=_ by unfold Ky.mk;rw[hf,if_neg (show ¬ (16:Int) < (n:Int) from i),List.append_nil]];exact(U).mono (fun b _ h=>Nat.le_trans m h)
theorem mk_g(g:0<=a/\a < 18446744073709551616)(c:Ky.mkE k a b=false):Calls Tryz.prog 72 #[.agg #[.int .i64 k,.int .u64 a,.int .u64 b]] w fun e w'=>∃ v,e=.returned (.tuple #[v,.int .i64 0])/\OB w' (w.heap.size <= ·) v (Ky.mk k a b)/\Below w.heap.size w w':=by
 obtain⟨n,i,j,hf,hn,d,f,l⟩:=Ky.oT k;unfold Ky.mkE at c;rw[hf] at c;simp at c;exact mk_n hf hn d f g ⟨by omega,fun h=>by omega,fun h=>by omega⟩
end
end Ks
end
end Go.Proofs.YtpoifdokmjhclaaGreat
