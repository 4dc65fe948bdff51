import Derived.Test.YtpoifdokmjhclaaGreatJyl
set_option maxRecDepth 100000
set_option maxHeartbeats 8000000
namespace Go.Proofs.YtpoifdokmjhclaaGreat
namespace Bk
open Go.RowKit Go.Lib Pg Lim Gl Kv
structure Sx (B:Nat) (w:World) (K:Nat->Prop) (g:Nat) (E:aD) (W:List aD) (n N:Nat):Prop where
 sa:SA w K (B <= ·) g E W n N
 lo:B<=w.heap.size
 kb:∀ b,K b->B<=b
structure SxE (B:Nat) (w:World) (K:Nat->Prop) (g:Nat) (E:aD) (W:List aD) (n N:Nat) (r:Value) (e:Ending) (w':World):Prop where
 ret:e=.returned r
 ex:∃ K',Sx B w' K' g E W n N/\(∀ b,K' b->K b\/w.heap.size<=b)/\Chg K w w'
structure SxF (B:Nat) (w:World) (K:Nat->Prop) (g:Nat) (E:aD) (W:List aD) (n N:Nat) (r:Value) (e:Ending) (w':World):Prop where
 ret:e=.returned r
 ex:∃ K' n' N',Sx B w' K' g E W n' N'/\n'<=n+10/\N'<=N+10/\(∀ b,K' b->K b\/w.heap.size<=b)/\Chg K w w'
structure At (B:Nat) (w0:World) (K0:Nat->Prop) (w:World) (K:Nat->Prop) (g:Nat) (E:aD) (W:List aD) (n N:Nat):Prop where
 sx:Sx B w K g E W n N
 km:∀ b,K b->K0 b\/w0.heap.size<=b
 cc:Chg K0 w0 w
section
variable {B:Nat} {w0 w w':World} {K0 K K':Nat->Prop} {g:Nat} {E E':aD} {W W':List aD} {n N n' N':Nat}
section
variable {x:Nat}{cs:List Value}{w w':World}{K K' K0:Nat->Prop}{W:List aD}{v r kv:Value}{l k:List Int}{args:Array Value}
theorem Sx.at(h:Sx B w K g E W n N):At B w K w K g E W n N:=⟨h,λ_ h=>.inl h,Chg.refl _ _⟩
theorem Sx.keep(h:Sx B w K g E W n N)(b:BW w w'):Sx B w' K g E W n N:=⟨h.sa.keep b,Nat.le_trans h.lo b.size,h.kb⟩
theorem At.keep(h:At B w0 K0 w K g E W n N)(b:BW w w'):At B w0 K0 w' K g E W n N:=⟨h.sx.keep b,h.km,h.cc.trans (Chg.of (F:=λ_=>False) b) (λ_ _ h=>h.elim)⟩
theorem At.drew(h:At B w0 K0 w K g E W n N):At B w0 K0 w.drew K g E W n N:=h.keep (Below.refl _ _).drew
theorem At.lt(h:At B w0 K0 w K g E W n N){b:Nat}(hb:K b):b < w.heap.size:=h.sx.sa.lt hb
theorem At.size(h:At B w0 K0 w K g E W n N):w0.heap.size<=w.heap.size:=h.cc.size
theorem At.cell{t:TypeId}(h:At B w0 K0 w K g E W n N)(X:Blk w x cs t)(C:Chg (·=x) w w')(hx:w0.heap.size<=x)(hk:¬ K x)(ht:t≠5):At B w0 K0 w' K g E W n N:=by
 refine⟨⟨h.sx.sa.chg C (λb e hb=>hk ((show b=x from e)▸hb)) (λb e c k=>?_),Nat.le_trans h.sx.lo C.size,h.sx.kb⟩,h.km,h.cc.trans C (λb hb e=>by have a:b=x:=e;omega)⟩
 have a:b=x:=e;subst a;exact ht (X.eq k).2
theorem At.op(h:At B w0 K0 w K g E W n N)(hs:Sx B w' K' g E' W' n' N')(c:∀ b,K' b->K b\/w.heap.size<=b)(hc:Chg K w w'):At B w0 K0 w' K' g E' W' n' N' :=
 ⟨hs,λb hb=>(c b hb).elim (h.km b) (λa=>.inr (Nat.le_trans h.cc.size a)),h.cc.trans hc (λb hb hk=>(h.km b hk).elim id (λa=>by omega))⟩
theorem BF{t:TypeId}(X:Blk w x cs t)(hn:¬ K x)(hK:∀ b,K' b->K b\/w.heap.size<=b):¬ K' x:=λh=>(hK x h).elim hn (λh2=>by have:=X.lt;omega)
theorem opX{t:TypeId}(X:Blk w x cs t)(hn:¬ K x)(hK:∀ b,K' b->K b\/w.heap.size<=b)(C:Chg K w w'):Blk w' x cs t/\¬ K' x:=⟨X.chg C hn,BF X hn hK⟩
theorem gm{t:TypeId}(X:Blk w x cs t)(hn:¬ K x)(hK:∀ b,K' b->K b\/w.heap.size<=b)(hC:Chg K w w'):Blk w' x cs t/\¬ K' x:=⟨X.chg hC hn,BF X hn hK⟩
theorem At.new(h:At B w0 K0 w K g E W n N)(hx:w.heap.size<=x):¬ K x:=λhk=>by have:=h.lt hk;omega
theorem At.al{B:Nat}{w0:World}{g:Nat}{E:aD}{n N:Nat}(h:At B w0 K0 w K g E W n N)(hx:w.heap.size<=x)(b:BW w w'):w0.heap.size<=x/\¬ K x/\At B w0 K0 w' K g E W n N:=⟨Nat.le_trans h.size hx,h.new hx,h.keep b⟩
theorem At.byu(h:At B w0 K0 w K g E W n N)(hv:ByU w v l)(C:Chg K w w'):ByU w' v l:=hv.chg C h.sx.sa.kind
theorem cO(h:ByU w v l)(b:BW w w'):ByU w' v l:=h.chg (K:=λ_=>False) (Chg.of b) (λ_ h=>h.elim)
theorem gp{t:TypeId}(h:ByU w v l)(X:Blk w x cs t)(C:Chg (·=x) w w')(ht:t≠5:=by decide):ByU w' v l:=h.chg C (λb e=>⟨cs,t,by have e':b=x:=e;subst e';exact X,ht⟩)
theorem Sx.bk(h:Sx B w K g E W n N)(hv:ByU w v l):BK w K v l:=λ_ hc=>(hv.chg hc h.sa.kind).byt
theorem Sx.ends{P:Nat}(h:Sx B w K g E W n N)(u:CP P args w (Kv.Ends w K (B <= ·) g E' W' n' N' r)):CP P args w (SxE B w K g E' W' n' N' r):=by
 refine u.mono ?_
 rintro e f ⟨rfl,d,c,a,hc⟩;exact⟨rfl,d,⟨c.mono (λb _ hb=>hb.elim id (Nat.le_trans h.lo)),Nat.le_trans h.lo hc.size,λb hb=>(a b hb).elim (h.kb b) (Nat.le_trans h.lo)⟩,a,hc⟩
theorem xset{vv:Value}{v:List Int}(h:Sx B w K g E W n N)(hk:ByU w kv k)(hv:ByU w vv v)(hn:n<=4000000000000000000)(a:N+2<=100000000) :
  CP 86 #[pg g,kv,vv] w (SxE B w K g (if gV k v=0 then put E k v else E) W (n+1) (N+2) (.int .i64 (gV k v))):=h.ends (sset h.sa (h.bk hk) (h.bk hv) hn a)
theorem xdel(h:Sx B w K g E W n N)(hk:ByU w kv k)(a:k.length≤1000000000)(hn:n≤4000000000000000000:=by omega)(b:N+2≤100000000:=by omega) :
    CP 131 #[pg g,kv] w (SxE B w K g (rem E k) W (n+1) (N+2) (.bool (Kv.look E k).isSome)):=h.ends (sdel h.sa (h.bk hk) a hn b)
structure GetE(B:Nat)(w:World)(K:Nat->Prop)(g:Nat)(E:aD)(W:List aD)(n N:Nat)(k:List Int)(e:Ending)(w':World):Prop where
 ex:∃ v,e=.returned (.tuple #[v,.bool (Kv.look E k).isSome])/\ByU w' v ((Kv.look E k).getD [])/\Sx B w' K g E W n N/\Chg K w w'
theorem Cf(h:Sx B w K g E W n N)(hk:ByU w kv k)(hn:n≤4000000000000000000:=by omega)(a:N≤100000000:=by omega) :
    CP 39 #[pg g,kv] w (GetE B w K g E W (n+1) N k):=by
  refine(sget h.sa (h.bk hk) hn a).mono ?_
  rintro e b ⟨v,rfl,O,S,C⟩;exact⟨v,rfl,ByU.of O,⟨S,Nat.le_trans h.lo C.size,h.kb⟩,C⟩
end
end
section
variable {w:World}{v:Value}{l:List Int}
theorem bya(h:By w v l):∃ b ao c,v=.slice ao l.length c/\ByA w b ao l.length c l:=by
 obtain⟨ao,c,e,g,a,d,f,k⟩:=h.ex;rcases k with rfl | ⟨b,o,rfl,_,j⟩
 ·exact⟨0,ao,c,e,0,rfl,g,⟨a,d⟩,f,.inl rfl,λi hi=>absurd hi (by simp)⟩
 exact⟨b,_,c,e,o,rfl,g,⟨a,d⟩,f,.inr rfl,λi hi=>j i _ (by rw[cF hi];exact List.getElem?_eq_getElem hi)⟩
theorem gQ{b n:Nat}(h:Box w b (l.map (Value.int .u8)) 5)(ho:Oct l)(hn:n=l.length)(d:l.length<=1000000):ByU w (.slice (some ⟨b,0,none⟩) n n) l:=by
 subst hn;refine⟨⟨_,_,rfl,Nat.le_refl _,by omega,λe=>by simp at e,ho,.inr ⟨b,0,rfl,h.lt,λi x hi=>?_⟩⟩,λf o a c e=>?_⟩
 ·rw[Nat.zero_add];have e:=h.blk;simp[World.cell?,e,hi]
 simp only[Value.slice.injEq,Option.some.injEq,Addr.mk.injEq] at e;obtain⟨⟨rfl,_⟩,_⟩:=e;exact⟨_,_,h.blk⟩
def ak(id:Int):List Int:=Ky.mk 4 id 0
def pv(x y:Int):List Int:=Rc.thr (Rc.pnx (λo=>([x,y]:List Int).getD o 0)) [(0,0),(0,1)] []
def jV(l:List Int):Int:=Rc.aP (Rc.eI l) 0
def qn(l:List Int):Int:=Rc.aP (Rc.eI l) 1
def cI(E:aD)(id:Int):Int:=jV ((Kv.look E (ak id)).getD [])
def ez(E:aD)(id:Int):Int:=qn ((Kv.look E (ak id)).getD [])
def qJ(E:aD)(id x y:Int):aD:=if x=0/\y=0 then rem E (ak id) else put E (ak id) (pv x y)
abbrev isA(id:Int):Prop:=(1<=id/\id<=4)\/16<=id
abbrev fI(x k:Int):Prop:=x<=1000000000000000000/\k<=1000000000000000000 - x
theorem AU(id:Int):0 < (ak id).length/\(ak id).length<=18:=by
 refine⟨?_,Ky.nV _ _ _⟩;unfold ak;rw[Ky.mk_eq (k:=4) (n:=9) (m0:=97) (m1:=0) rfl];simp
theorem Bm(x y:Int):(pv x y).length<=600:=by have:=Rc.dA (λo=>([x,y]:List Int).getD o 0) [(0,0),(0,1)] [];simpa[pv] using this
theorem pv_oct(x y:Int):Oct (pv x y):=Rc.gX _ _ _ (λ_ h=>by simp at h)
theorem set_ok(id x y:Int):gV (ak id) (pv x y)=0:=by
 have h1:=AU id;have h2:=Bm x y;unfold gV;rw[if_neg (by omega),if_neg (by omega)]
end
end Bk
end Go.Proofs.YtpoifdokmjhclaaGreat
