import Derived.Test.YtgdohcdlkonhiaaGreatDoorJah
import Derived.Test.YtgdohcdlkonhiaaGreatDoorJal
set_option maxRecDepth 100000
set_option maxHeartbeats 8000000
namespace Go.Proofs.YtgdohcdlkonhiaaGreatDoor
section
namespace Bk
open Go.RowKit Go.Lib Pg Lim Gl Kv
structure Sx (B:Nat) (w:World) (K:Nat->Prop) (g:Nat) (E:aC) (W:List aC) (n N:Nat):Prop where
 sa:SA w K (B <= ·) g E W n N
 lo:B<=w.heap.size
 kb:∀ b,K b->B<=b
structure SxE (B:Nat) (w:World) (K:Nat->Prop) (g:Nat) (E:aC) (W:List aC) (n N:Nat) (r:Value) (e:Ending) (w':World):Prop where
 ret:e=.returned r
 ex:∃ K',Sx B w' K' g E W n N/\(∀ b,K' b->K b\/w.heap.size<=b)/\Chg K w w'
structure SxF (B:Nat) (w:World) (K:Nat->Prop) (g:Nat) (E:aC) (W:List aC) (n N:Nat) (r:Value) (e:Ending) (w':World):Prop where
 ret:e=.returned r
 ex:∃ K' n' N',Sx B w' K' g E W n' N'/\n'<=n+10/\N'<=N+10/\(∀ b,K' b->K b\/w.heap.size<=b)/\Chg K w w'
structure At (B:Nat) (w0:World) (K0:Nat->Prop) (w:World) (K:Nat->Prop) (g:Nat) (E:aC) (W:List aC) (n N:Nat):Prop where
 sx:Sx B w K g E W n N
 km:∀ b,K b->K0 b\/w0.heap.size<=b
 cc:Chg K0 w0 w
section
variable {B:Nat} {w0 w w':World} {K0 K K':Nat->Prop} {g:Nat} {E E':aC} {W W':List aC} {n N n' N':Nat}
section
variable {x:Nat}{cs:List Value}{w w':World}{K K' K0:Nat->Prop}{W:List aC}{v r kv:Value}{l k:List Int}{args:Array Value}
theorem Sx.at(h:Sx B w K g E W n N):At B w K w K g E W n N:=⟨h,fun _ h=>.inl h,Chg.refl _ _⟩
theorem Sx.keep(h:Sx B w K g E W n N)(b:Below w.heap.size w w'):Sx B w' K g E W n N:=⟨h.sa.keep b,Nat.le_trans h.lo b.size,h.kb⟩
theorem At.keep(h:At B w0 K0 w K g E W n N)(b:Below w.heap.size w w'):At B w0 K0 w' K g E W n N:=⟨h.sx.keep b,h.km,h.cc.trans (Chg.of (F:=fun _=>False) b) (fun _ _ h=>h.elim)⟩
theorem At.drew(h:At B w0 K0 w K g E W n N):At B w0 K0 w.drew K g E W n N:=h.keep (Below.refl _ _).drew
theorem At.lt(h:At B w0 K0 w K g E W n N){b:Nat}(hb:K b):b < w.heap.size:=h.sx.sa.lt hb
theorem At.size(h:At B w0 K0 w K g E W n N):w0.heap.size<=w.heap.size:=h.cc.size
theorem At.cell{t:TypeId}(h:At B w0 K0 w K g E W n N)(X:Blk w x cs t)(C:Chg (·=x) w w')(hx:w0.heap.size<=x)(hk:¬ K x)(ht:t≠5):At B w0 K0 w' K g E W n N:=by
 refine⟨⟨h.sx.sa.chg C (fun b e hb=>hk ((show b=x from e)▸hb)) (fun b e c k=>?_),Nat.le_trans h.sx.lo C.size,h.sx.kb⟩,h.km,h.cc.trans C (fun b hb e=>by have a:b=x:=e;omega)⟩
 have a:b=x:=e;subst a;exact ht (X.eq k).2
theorem At.op(h:At B w0 K0 w K g E W n N)(d:Sx B w' K' g E' W' n' N')(c:∀ b,K' b->K b\/w.heap.size<=b)(hc:Chg K w w'):At B w0 K0 w' K' g E' W' n' N' :=
 ⟨d,fun b hb=>(c b hb).elim (h.km b) (fun a=>.inr (Nat.le_trans h.cc.size a)),h.cc.trans hc (fun b hb hk=>(h.km b hk).elim id (fun a=>by omega))⟩
theorem zD{t:TypeId}(X:Blk w x cs t)(hn:¬ K x)(hK:∀ b,K' b->K b\/w.heap.size<=b):¬ K' x:=fun h=>(hK x h).elim hn (fun h2=>by have:=X.lt;omega)
theorem opX{t:TypeId}(X:Blk w x cs t)(hn:¬ K x)(hK:∀ b,K' b->K b\/w.heap.size<=b)(C:Chg K w w'):Blk w' x cs t/\¬ K' x:=⟨X.chg C hn,zD X hn hK⟩
theorem fq{t:TypeId}(X:Blk w x cs t)(hn:¬ K x)(hK:∀ b,K' b->K b\/w.heap.size<=b)(hC:Chg K w w'):Blk w' x cs t/\¬ K' x:=⟨X.chg hC hn,zD X hn hK⟩
theorem At.new(h:At B w0 K0 w K g E W n N)(hx:w.heap.size<=x):¬ K x:=fun hk=>by have:=h.lt hk;omega
theorem At.al{B:Nat}{w0:World}{g:Nat}{E:aC}{n N:Nat}(h:At B w0 K0 w K g E W n N)(hx:w.heap.size<=x)(b:Below w.heap.size w w'):w0.heap.size<=x/\¬ K x/\At B w0 K0 w' K g E W n N:=⟨Nat.le_trans h.size hx,h.new hx,h.keep b⟩
theorem At.byu(h:At B w0 K0 w K g E W n N)(hv:ByU w v l)(C:Chg K w w'):ByU w' v l:=hv.chg C h.sx.sa.kind
theorem aT(h:ByU w v l)(b:Below w.heap.size w w'):ByU w' v l:=h.chg (K:=fun _=>False) (Chg.of b) (fun _ h=>h.elim)
theorem dV{t:TypeId}(h:ByU w v l)(X:Blk w x cs t)(C:Chg (·=x) w w')(ht:t≠5):ByU w' v l:=h.chg C (fun b e=>⟨cs,t,by have e':b=x:=e;subst e';exact X,ht⟩)
theorem Sx.bk(h:Sx B w K g E W n N)(hv:ByU w v l):BK w K v l:=fun _ hc=>(hv.chg hc h.sa.kind).byt
theorem Sx.ends{P:Nat}(h:Sx B w K g E W n N)(u:Calls Tryz.prog P args w (Kv.Ends w K (B <= ·) g E' W' n' N' r)):Calls Tryz.prog P args w (SxE B w K g E' W' n' N' r):=by
 refine u.mono ?_
 rintro e f ⟨rfl,d,c,a,hc⟩;exact⟨rfl,d,⟨c.mono (fun b _ hb=>hb.elim id (Nat.le_trans h.lo)),Nat.le_trans h.lo hc.size,fun b hb=>(a b hb).elim (h.kb b) (Nat.le_trans h.lo)⟩,a,hc⟩
theorem xset{vv:Value}{v:List Int}(h:Sx B w K g E W n N)(hk:ByU w kv k)(hv:ByU w vv v)(hn:n<=4000000000000000000)(a:N+2<=100000000) :
  Calls Tryz.prog 15 #[pg g,kv,vv] w (SxE B w K g (if gZ k v=0 then put E k v else E) W (n+1) (N+2) (.int .i64 (gZ k v))):=h.ends (sset h.sa (h.bk hk) (h.bk hv) hn a)
theorem xdel(h:Sx B w K g E W n N)(hk:ByU w kv k)(a:k.length<=1000000000)(hn:n<=4000000000000000000)(b:N+2<=100000000) :
  Calls Tryz.prog 112 #[pg g,kv] w (SxE B w K g (rem E k) W (n+1) (N+2) (.bool (Kv.look E k).isSome)):=h.ends (sdel h.sa (h.bk hk) a hn b)
structure GetE(B:Nat)(w:World)(K:Nat->Prop)(g:Nat)(E:aC)(W:List aC)(n N:Nat)(k:List Int)(e:Ending)(w':World):Prop where
 ex:∃ v,e=.returned (.tuple #[v,.bool (Kv.look E k).isSome])/\ByU w' v ((Kv.look E k).getD [])/\Sx B w' K g E W n N/\Chg K w w'
theorem xc(h:Sx B w K g E W n N)(hk:ByU w kv k)(hn:n<=4000000000000000000)(a:N<=100000000) :
  Calls Tryz.prog 82 #[pg g,kv] w (GetE B w K g E W (n+1) N k):=by
 refine(sget h.sa (h.bk hk) hn a).mono ?_
 rintro e b ⟨v,rfl,O,S,C⟩;exact⟨v,rfl,ByU.of O,⟨S,Nat.le_trans h.lo C.size,h.kb⟩,C⟩
end
end
section
variable {w:World}{v:Value}{l:List Int}
theorem bya(h:By w v l):∃ b ao c,v=.slice ao l.length c/\ByA w b ao l.length c l:=by
 obtain⟨ao,c,e,g,a,d,f,k⟩:=h.ex;rcases k with rfl | ⟨b,o,rfl,_,j⟩
 ·exact⟨0,ao,c,e,0,rfl,g,⟨a,d⟩,f,.inl rfl,fun i hi=>absurd hi (by simp)⟩
 ·exact⟨b,_,c,e,o,rfl,g,⟨a,d⟩,f,.inr rfl,fun i hi=>j i _ (by rw[bS hi];exact List.getElem?_eq_getElem hi)⟩
theorem iN{b n:Nat}(h:Box w b (l.map (Value.int .u8)) 5)(ho:Oct l)(hn:n=l.length)(d:l.length<=1000000):ByU w (.slice (some ⟨b,0,none⟩) n n) l:=by
 subst hn;refine⟨⟨_,_,rfl,Nat.le_refl _,by omega,fun e=>by simp at e,ho,.inr ⟨b,0,rfl,h.lt,fun i x hi=>?_⟩⟩,fun f o a c e=>?_⟩
 ·rw[Nat.zero_add];have e:=h.blk;simp[World.cell?,e,hi]
 ·simp only[Value.slice.injEq,Option.some.injEq,Addr.mk.injEq] at e;obtain⟨⟨rfl,_⟩,_⟩:=e;exact⟨_,_,h.blk⟩
def ak(id:Int):List Int:=Ky.mk 4 id 0
def pv(x y:Int):List Int:=Rc.thr (Rc.pnx (fun o=>([x,y]:List Int).getD o 0)) [(0,0),(0,1)] []
def fJ(l:List Int):Int:=Rc.aP (Rc.dq l) 0
def jr(l:List Int):Int:=Rc.aP (Rc.dq l) 1
def bN(E:aC)(id:Int):Int:=fJ ((Kv.look E (ak id)).getD [])
def dy(E:aC)(id:Int):Int:=jr ((Kv.look E (ak id)).getD [])
def qn(E:aC)(id x y:Int):aC:=if x=0/\y=0 then rem E (ak id) else put E (ak id) (pv x y)
abbrev isA(id:Int):Prop:=(1<=id/\id<=4)\/16<=id
abbrev fP(x k:Int):Prop:=x<=1000000000000000000/\k<=1000000000000000000 - x
theorem yQ(id:Int):0 < (ak id).length/\(ak id).length<=18:=by
 refine⟨?_,Ky.jD _ _ _⟩;unfold ak;rw[Ky.mk_eq (k:=4) (n:=9) (m0:=97) (m1:=0) rfl];simp
theorem zi(x y:Int):(pv x y).length<=600:=by have:=Rc.ea (fun o=>([x,y]:List Int).getD o 0) [(0,0),(0,1)] [];simpa[pv] using this
theorem pv_oct(x y:Int):Oct (pv x y):=Rc.iY _ _ _ (fun _ h=>by simp at h)
theorem set_ok(id x y:Int):gZ (ak id) (pv x y)=0:=by
 have h1:=yQ id;have h2:=zi x y;unfold gZ;rw[if_neg (by omega),if_neg (by omega)]
end
end Bk
end
section
namespace Ks
open Go.RowKit Go.Lib Pg Gl
attribute [local go_sem] Oper.semAt_some
set_option linter.unusedVariables false
set_option linter.unusedSimpArgs false
section
variable {w:World}{k m0 m1 x y a b:Int}{n:Nat}{r:Bool}{ρ:Operand->Value}
theorem fo_f(hf:Ky.frm k=((n:Int),m0,m1)):Calls Tryz.prog 42 #[.int .i64 k] w fun e w'=>e=.returned (.agg #[.int .i64 (n:Int),.int .u8 m0,.int .u8 m1])/\Below w.heap.size w w':=by
 have u:=Ky.mT (w:=w) (k:=k);rw[hf] at u;exact u
theorem BM{n:Int}(h:decide (8 < n)=r):Calls Tryz.prog 43 #[.agg #[.int .i64 n,.int .u8 x,.int .u8 y]] w fun e w'=>e=.returned (.bool r)/\Below w.heap.size w w':=by
 subst h;exact Ky.iL (w:=w) (n:=n) (x:=x) (y:=y)
theorem lZ{n:Int}(h:decide (16 < n)=r):Calls Tryz.prog 44 #[.agg #[.int .i64 n,.int .u8 x,.int .u8 y]] w fun e w'=>e=.returned (.bool r)/\Below w.heap.size w w':=by
 subst h;exact Ky.oG (w:=w) (n:=n) (x:=x) (y:=y)
theorem yY(b:0<=a)(h1:a < 18446744073709551616):Calls Tryz.prog 46 #[.int .i64 k,.int .u64 a] w fun e w'=>e=.returned (.int .u64 (Ky.tn k a))/\Below w.heap.size w w':=by
 refine(Ky.nT b h1).mono ?_
 rintro e w' ⟨rfl,rfl⟩;exact⟨rfl,Below.refl _ _⟩
theorem BE{o:Oper}{n:Int}(hn:n≠0)(ho:∃ u v,o.op=.binOp .eql 95 u v 95/\ρ u=.agg #[.int .i64 n,.int .u8 m0,.int .u8 m1]/\ρ v=.agg #[.int .i64 0,.int .u8 0,.int .u8 0]:=by exact⟨_,_,rfl,by kernel_rfl,by kernel_rfl⟩):(execOp ρ o).run Tryz.prog w=.ok (.value (.bool false)) w:=by
 obtain⟨u,v,h,e1,e2⟩:=ho;simp only[execOp,h,e1,e2];go_simp
 try simp[hn]
theorem mk_n(hf:Ky.frm k=((n:Int),m0,m1))(hn:n<=18)(M:0<=m0/\m0 < 256)(h1:0<=m1/\m1 < 256)(A:0<=a/\a < 18446744073709551616)(he:(n:Int)≠0/\(a≠0->8 < (n:Int))/\(b≠0->16 < (n:Int))):Calls Tryz.prog 14 #[.agg #[.int .i64 k,.int .u64 a,.int .u64 b]] w fun e w'=>∃ v,e=.returned (.tuple #[v,.int .i64 0])/\OB w' (w.heap.size <= ·) v (Ky.mk k a b)/\Below w.heap.size w w':=by
 have f:=Below.refl w.heap.size w;refine ax (n:=46) Tryz.func14 rfl ?_
 refine ae (ah (ta 1 [iI k,iU a,iU b] 46 (pg) ?_));intro v1 g2 c s B;have O:=Nat.le_trans f.size s;skip;replace f:=aj f B;refine t 2 (.slice none 0 0) (t 3 (iI 0) (af (aa (ae (ah (t 6 (pg g2) (tl 7 (iI k) c 0 (tc 8 42 #[iI k] (fo_f hf) ?_))))))));rintro _ v3 ⟨rfl,B⟩;refine⟨_,rfl,?_⟩;replace f:=aj f B;replace c:=c.keep B;have D:=c.lt;refine ta 4 [iI 0,.int .u8 0,.int .u8 0] 95 (pg) ?_
 intro v4 g5 d x B;have H:=Nat.le_trans f.size x;have o:=c.lt;replace f:=aj f B;replace c:=c.keep B;refine ts d 0 (.agg #[iI (n:Int),.int .u8 m0,.int .u8 m1]) [iI (n:Int),.int .u8 m0,.int .u8 m1] [iI (n:Int),.int .u8 m0,.int .u8 m1] ?_
 intro v6 Y C;replace f:=aL f C (by omega);replace c:=c.chg C (show g2≠g5 by omega);have d:=Y;refine af (aa ?_);refine ke (fun(_:Unit)=>[(1,pg g2),(4,pg g5),(31,bF)]) (fun _ w'=>Below w.heap.size w w'/\Blk w' g2 [iI k,iU a,iU b] 46/\Blk w' g5 [iI (n:Int),.int .u8 m0,.int .u8 m1] 95) ?_ ?_
 ·refine ae (ah (tlr 9 [iI (n:Int),.int .u8 m0,.int .u8 m1] d 0 (t 10 (.agg #[iI 0,.int .u8 0,.int .u8 0]) (tr 11 (bF) (BE (n:=(n:Int)) (m0:=m0) (m1:=m1) he.1) (t 12 (bF) (t 13 (pq g2 1) (tl 14 (iU a) c 1 ?_)))))));by_cases E:(a:Int)=0
  ·refine tq 15 (.bool ((a:Int) != 0)) (bF) (congrArg Value.bool (bne_eq_false_iff_eq.2 E)) (t 16 (bF) (tn 17 (tn 18 (tn 19 (t 20 (bF) (t 21 (bF) (t 22 (bF) (t 23 (pq g2 2) (tl 24 (iU b) c 2 ?_)))))))));by_cases y:(b:Int)=0
   ·exact tq 25 (.bool ((b:Int) != 0)) (bF) (congrArg Value.bool (bne_eq_false_iff_eq.2 y)) (t 26 (bF) (tn 27 (tn 28 (tn 29 (t 30 (bF) (t 31 (bF) (af (aa (aD [(1,pg g2),(2,.slice none 0 0),(3,iI 0),(4,pg g5),(31,bF)] (aZ (aM (bI () ⟨f,c,d⟩ (by kernel_rfl)))))))))))))
   ·refine tq 25 (.bool ((b:Int) != 0)) (bT) (congrArg Value.bool (bne_iff_ne.2 y)) (t 26 (bT) (tlr 27 [iI (n:Int),.int .u8 m0,.int .u8 m1] d 0 (tc 28 44 #[.agg #[iI (n:Int),.int .u8 m0,.int .u8 m1]] (lZ (r:=true) (by exact decide_eq_true (he.2.2 (by omega)))) ?_)));rintro _ v9 ⟨rfl,B⟩;refine⟨_,rfl,?_⟩;replace f:=aj f B;replace c:=c.keep B;replace d:=d.keep B;exact t 29 (bF) (t 30 (bF) (t 31 (bF) (af (aa (aD [(1,pg g2),(2,.slice none 0 0),(3,iI 0),(4,pg g5),(31,bF)] (aZ (aM (bI () ⟨f,c,d⟩ (by kernel_rfl)))))))))
  ·refine tq 15 (.bool ((a:Int) != 0)) (bT) (congrArg Value.bool (bne_iff_ne.2 E)) (t 16 (bT) (tlr 17 [iI (n:Int),.int .u8 m0,.int .u8 m1] d 0 (tc 18 43 #[.agg #[iI (n:Int),.int .u8 m0,.int .u8 m1]] (BM (r:=true) (by exact decide_eq_true (he.2.1 (by omega)))) ?_)));rintro _ v10 ⟨rfl,B⟩;refine⟨_,rfl,?_⟩;replace f:=aj f B;replace c:=c.keep B;replace d:=d.keep B;refine t 19 (bF) (t 20 (bF) (t 21 (bF) (t 22 (bF) (t 23 (pq g2 2) (tl 24 (iU b) c 2 ?_)))));by_cases l:(b:Int)=0
   ·exact tq 25 (.bool ((b:Int) != 0)) (bF) (congrArg Value.bool (bne_eq_false_iff_eq.2 l)) (t 26 (bF) (tn 27 (tn 28 (tn 29 (t 30 (bF) (t 31 (bF) (af (aa (aD [(1,pg g2),(2,.slice none 0 0),(3,iI 0),(4,pg g5),(31,bF)] (aZ (aM (bI () ⟨f,c,d⟩ (by kernel_rfl)))))))))))))
   ·refine tq 25 (.bool ((b:Int) != 0)) (bT) (congrArg Value.bool (bne_iff_ne.2 l)) (t 26 (bT) (tlr 27 [iI (n:Int),.int .u8 m0,.int .u8 m1] d 0 (tc 28 44 #[.agg #[iI (n:Int),.int .u8 m0,.int .u8 m1]] (lZ (r:=true) (by exact decide_eq_true (he.2.2 (by omega)))) ?_)));rintro _ v12 ⟨rfl,B⟩;refine⟨_,rfl,?_⟩;replace f:=aj f B;replace c:=c.keep B;replace d:=d.keep B;exact t 29 (bF) (t 30 (bF) (t 31 (bF) (af (aa (aD [(1,pg g2),(2,.slice none 0 0),(3,iI 0),(4,pg g5),(31,bF)] (aZ (aM (bI () ⟨f,c,d⟩ (by kernel_rfl)))))))))
 clear c d f;rintro _ F ⟨f,c,d⟩;refine ae ?_
 replace f:=f.drew;replace c:=c.drew;replace d:=d.drew;refine aO (fun w'=>Blk w' g5 [iI (n:Int),.int .u8 m0,.int .u8 m1] 95/\Blk w' g2 [iI k,iU a,iU b] 46) (fun _=>false) ⟨d,c⟩ ?_
 refine zlr 0 32 [iI (n:Int),.int .u8 m0,.int .u8 m1] (fun _ h=>h.1) 0 (z 1 33 (pg g2) (zl 2 34 (iI k) (fun _ h=>h.2) 0 (z 3 35 (pq g2 1) (zl 4 36 (iU a) (fun _ h=>h.2) 1 (zc 5 37 46 #[iI k,iU a] (yY A.1 A.2) ?_)))));rintro _ q ⟨rfl,B⟩;replace f:=aj f B;replace c:=c.keep B;replace d:=d.keep B;refine⟨_,rfl,⟨d,c⟩,?_⟩;obtain⟨T,p⟩:∃ T,T=(q).heap.size:=⟨_,rfl⟩
 have j:w.heap.size<=T:=by rw[p];exact f.size
 refine zc 6 38 45 #[.agg #[iI (n:Int),.int .u8 m0,.int .u8 m1],iU (Ky.tn k a)] (Ky.xf (n:=n) (a:=Ky.tn k a) (by omega) M h1) ?_
 rintro _ G ⟨u,rfl,U,B⟩;rw[<- p] at U;have K:=B.size;replace f:=aj f B;replace c:=c.keep B;replace d:=d.keep B
 have g:T<=_:=Nat.le_trans (Nat.le_of_eq p) K;refine⟨_,rfl,⟨d,c⟩,?_⟩;refine z 7 5 (u) (aG (aa (ae (ae (ah (tlr 39 [iI (n:Int),.int .u8 m0,.int .u8 m1] d 0 ?_))))));by_cases i:(16:Int) < n
 ·refine tc 40 44 #[.agg #[iI (n:Int),.int .u8 m0,.int .u8 m1]] (lZ (r:=true) (decide_eq_true i)) ?_
  rintro _ J ⟨rfl,B⟩;refine⟨_,rfl,?_⟩;replace f:=aj f B;replace c:=c.keep B;replace d:=d.keep B;replace U:=U.keep B;replace g:=Nat.le_trans g B.size;refine af (aa (bJ (ah (t 41 (u) (t 42 (pq g2 2) (tl 43 (iU b) c 2 ?_))))));clear c;clear d;refine tc 44 47 #[u,iU b] (Ky.db U g (Nat.le_trans (Ky.vS _ _) (by decide))) ?_
  rintro _ P ⟨m,rfl,N,L⟩;refine⟨_,rfl,?_⟩;replace f:=f.trans (L.mono j);clear U;refine t 5 (m) (af (aa (aD [(5,m)] (ae (ah (t 45 (m) (t 2 (m) (t 3 (iI 0) (af (aa (ay (aA (.tuple #[m,iI 0]) (rs2 2 3) ?_))))))))))));refine⟨_,rfl,?_,f⟩;rw[show Ky.mk k a b=_ by unfold Ky.mk;rw[hf,if_pos (show (16:Int) < (n:Int) from i)]];exact(N).mono (fun b _ h=>Nat.le_trans j h)
 ·refine tc 40 44 #[.agg #[iI (n:Int),.int .u8 m0,.int .u8 m1]] (lZ (r:=false) (decide_eq_false i)) ?_
  rintro _ I ⟨rfl,B⟩;refine⟨_,rfl,?_⟩;replace f:=aj f B;replace c:=c.keep B;replace d:=d.keep B;replace U:=U.keep B;replace g:=Nat.le_trans g B.size;refine af (aa (aZ (aM (aa (ae (ah (t 45 (u) (t 2 (u) (t 3 (iI 0) (af (aa (aD [(2,u),(3,iI 0)] (ay (aA (.tuple #[u,iI 0]) (rs2 2 3) ?_))))))))))))));refine⟨_,rfl,?_,f⟩;rw[show Ky.mk k a b=_ by unfold Ky.mk;rw[hf,if_neg (show ¬ (16:Int) < (n:Int) from i),List.append_nil]];exact(U).mono (fun b _ h=>Nat.le_trans j h)
theorem mk_g(g:0<=a/\a < 18446744073709551616)(c:Ky.mkE k a b=false):Calls Tryz.prog 14 #[.agg #[.int .i64 k,.int .u64 a,.int .u64 b]] w fun e w'=>∃ v,e=.returned (.tuple #[v,.int .i64 0])/\OB w' (w.heap.size <= ·) v (Ky.mk k a b)/\Below w.heap.size w w':=by
 obtain⟨n,m0,m1,hf,hn,d,f,i⟩:=Ky.o7 k;unfold Ky.mkE at c;rw[hf] at c;simp at c;exact mk_n hf hn d f g ⟨by omega,fun h=>by omega,fun h=>by omega⟩
end
end Ks
end
end Go.Proofs.YtgdohcdlkonhiaaGreatDoor
