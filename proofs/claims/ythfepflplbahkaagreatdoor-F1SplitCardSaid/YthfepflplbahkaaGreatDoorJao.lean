import Derived.Test.YthfepflplbahkaaGreatDoorJai
import Derived.Test.YthfepflplbahkaaGreatDoorJaj
import Derived.Test.YthfepflplbahkaaGreatDoorJal
import Derived.Test.YthfepflplbahkaaGreatDoorJan
set_option maxRecDepth 100000
set_option maxHeartbeats 8000000
namespace Go.Proofs.YthfepflplbahkaaGreatDoor
namespace Bk
open Go.RowKit Go.Lib Pg Lim Gl Kv
structure Sx (B:Nat) (w:World) (K:Nat->Prop) (g:Nat) (E:aD) (W:List aD) (n N:Nat):Prop where
 sa:SA w K (B <= ·) g E W n N
 lo:B<=w.heap.size
 kb:∀ b,K b->B<=b
structure SxE (B:Nat) (w:World) (K:Nat->Prop) (g:Nat) (E:aD) (W:List aD) (n N:Nat) (r:Value) (e:Ending) (w':World):Prop where
 ret:e=.returned r
 ex:∃ K',Sx B w' K' g E W n N/\(∀ b,K' b->K b\/w.heap.size<=b)/\Chg K w w'
structure SxF (B:Nat) (w:World) (K:Nat->Prop) (g:Nat) (E:aD) (W:List aD) (n N:Nat) (r:Value) (e:Ending) (w':World):Prop where
 ret:e=.returned r
 ex:∃ K' n' N',Sx B w' K' g E W n' N'/\n'<=n + 10/\N'<=N + 10/\(∀ b,K' b->K b\/w.heap.size<=b)/\Chg K w w'
structure At (B:Nat) (w0:World) (K0:Nat->Prop) (w:World) (K:Nat->Prop) (g:Nat) (E:aD) (W:List aD) (n N:Nat):Prop where
 sx:Sx B w K g E W n N
 km:∀ b,K b->K0 b\/w0.heap.size<=b
 cc:Chg K0 w0 w
section
variable {B:Nat} {w0 w w':World} {K0 K K':Nat->Prop} {g:Nat} {E E':aD} {W W':List aD} {n N n' N':Nat}
section
variable {x:Nat}{cs:List Value}{v r kv:Value}{l k:List Int}{args:Array Value}
theorem Sx.at(h:Sx B w K g E W n N):At B w K w K g E W n N:=⟨h,fun _ h=>.inl h,Chg.refl _ _⟩
theorem Sx.keep(h:Sx B w K g E W n N)(b:Below w.heap.size w w'):Sx B w' K g E W n N:=⟨h.sa.keep b,Nat.le_trans h.lo b.size,h.kb⟩
theorem At.keep(h:At B w0 K0 w K g E W n N)(b:Below w.heap.size w w'):At B w0 K0 w' K g E W n N:=⟨h.sx.keep b,h.km,h.cc.trans (Chg.of (F:=fun _=>False) b) (fun _ _ h=>h.elim)⟩
theorem At.drew(h:At B w0 K0 w K g E W n N):At B w0 K0 w.drew K g E W n N:=h.keep (Below.refl _ _).drew
theorem At.lt(h:At B w0 K0 w K g E W n N){b:Nat}(hb:K b):b < w.heap.size:=h.sx.sa.lt hb
theorem At.size(h:At B w0 K0 w K g E W n N):w0.heap.size<=w.heap.size:=h.cc.size
theorem At.cell{t:TypeId}(h:At B w0 K0 w K g E W n N)(X:Blk w x cs t)(C:Chg (· = x) w w')(hx:w0.heap.size<=x)(f:¬ K x)(d:t≠5):At B w0 K0 w' K g E W n N:=by
 refine⟨⟨h.sx.sa.chg C (fun b e hb=>f ((show b=x from e)▸hb)) (fun b e c k => ?_),Nat.le_trans h.sx.lo C.size,h.sx.kb⟩,h.km,h.cc.trans C (fun b hb e=>by have a:b=x:=e; omega)⟩
 have a:b=x:=e;subst a;exact d (X.eq k).2
theorem At.op(h:At B w0 K0 w K g E W n N)(hs:Sx B w' K' g E' W' n' N')(d:∀ b,K' b->K b\/w.heap.size<=b)(hc:Chg K w w'):At B w0 K0 w' K' g E' W' n' N' :=
 ⟨hs,fun b hb=>(d b hb).elim (h.km b) (fun a=>.inr (Nat.le_trans h.cc.size a)),h.cc.trans hc (fun b hb c=>(h.km b c).elim id (fun a=>by omega))⟩
theorem not_op{t:TypeId}(X:Blk w x cs t)(hn:¬ K x)(hK:∀ b,K' b->K b\/w.heap.size<=b):¬ K' x:=fun h=>(hK x h).elim hn (fun h2=>by have:=X.lt; omega)
theorem opX{t:TypeId}(X:Blk w x cs t)(hn:¬ K x)(hK:∀ b,K' b->K b\/w.heap.size<=b)(C:Chg K w w'):Blk w' x cs t/\¬ K' x:=⟨X.chg C hn,not_op X hn hK⟩
theorem At.new(h:At B w0 K0 w K g E W n N)(hx:w.heap.size<=x):¬ K x:=fun hk=>by have:=h.lt hk; omega
theorem At.byu(h:At B w0 K0 w K g E W n N)(hv:ByU w v l)(C:Chg K w w'):ByU w' v l:=hv.chg C h.sx.sa.kind
theorem eN(h:ByU w v l)(b:Below w.heap.size w w'):ByU w' v l:=h.chg (K:=fun _=>False) (Chg.of b) (fun _ h=>h.elim)
theorem jN{t:TypeId}(h:ByU w v l)(X:Blk w x cs t)(C:Chg (· = x) w w')(ht:t≠5):ByU w' v l:=h.chg C (fun b e=>⟨cs,t,by have e':b=x:=e; subst e'; exact X,ht⟩)
theorem Sx.bk(h:Sx B w K g E W n N)(hv:ByU w v l):BK w K v l:=fun _ hc=>(hv.chg hc h.sa.kind).byt
theorem Sx.ends{P:Nat}(h:Sx B w K g E W n N)(u:Calls Tryz.prog P args w (Kv.Ends w K (B <= ·) g E' W' n' N' r)):Calls Tryz.prog P args w (SxE B w K g E' W' n' N' r):=by
 refine u.mono ?_
 rintro e d ⟨rfl,c,hs,a,hc⟩;exact⟨rfl,c,⟨hs.mono (fun b _ hb=>hb.elim id (Nat.le_trans h.lo)),Nat.le_trans h.lo hc.size,fun b hb=>(a b hb).elim (h.kb b) (Nat.le_trans h.lo)⟩,a,hc⟩
theorem xset{vv:Value}{v:List Int}(h:Sx B w K g E W n N)(a:ByU w kv k)(hv:ByU w vv v)(hn:n<=4000000000000000000)(b:N + 2<=100000000) :
  Calls Tryz.prog 64 #[pg g,kv,vv] w (SxE B w K g (if iP k v=0 then put E k v else E) W (n + 1) (N + 2) (.int .i64 (iP k v))):=h.ends (sset h.sa (h.bk a) (h.bk hv) hn b)
theorem xdel(h:Sx B w K g E W n N)(b:ByU w kv k)(a:k.length<=1000000000)(hn:n<=4000000000000000000)(c:N + 2<=100000000) :
  Calls Tryz.prog 75 #[pg g,kv] w (SxE B w K g (rem E k) W (n + 1) (N + 2) (.bool (Kv.look E k).isSome)):=h.ends (sdel h.sa (h.bk b) a hn c)
structure GetE(B:Nat)(w:World)(K:Nat->Prop)(g:Nat)(E:aD)(W:List aD)(n N:Nat)(k:List Int)(e:Ending)(w':World):Prop where
 ex:∃ v,e=.returned (.tuple #[v,.bool (Kv.look E k).isSome])/\ByU w' v ((Kv.look E k).getD [])/\Sx B w' K g E W n N/\Chg K w w'
theorem xget(h:Sx B w K g E W n N)(a:ByU w kv k)(hn:n<=4000000000000000000)(b:N<=100000000) :
  Calls Tryz.prog 127 #[pg g,kv] w (GetE B w K g E W (n + 1) N k):=by
 refine(sget h.sa (h.bk a) hn b).mono ?_
 rintro e c ⟨v,rfl,O,S,C⟩;exact⟨v,rfl,ByU.of O,⟨S,Nat.le_trans h.lo C.size,h.kb⟩,C⟩
end
end
section
variable {w:World}{v:Value}{l:List Int}
theorem bya(h:By w v l):∃ b ao c,v=.slice ao l.length c/\ByA w b ao l.length c l:=by
 obtain⟨ao,c,e,a,g,d,f,k⟩:=h.ex;rcases k with rfl | ⟨b,o,rfl,_,j⟩
 ·exact⟨0,ao,c,e,0,rfl,a,⟨g,d⟩,f,.inl rfl,fun i hi=>absurd hi (by simp)⟩
 ·exact⟨b,_,c,e,o,rfl,a,⟨g,d⟩,f,.inr rfl,fun i hi=>j i _ (by rw[bS hi]; exact List.getElem?_eq_getElem hi)⟩
theorem vw{b n:Nat}(h:Box w b (l.map (Value.int .u8)) 5)(a:Oct l)(hn:n=l.length)(g:l.length<=1000000):ByU w (.slice (some ⟨b,0,none⟩) n n) l:=by
 subst hn;refine⟨⟨_,_,rfl,Nat.le_refl _,by omega,fun e=>by simp at e,a,.inr ⟨b,0,rfl,h.lt,fun i x hi => ?_⟩⟩,fun d o f c e => ?_⟩
 ·rw[Nat.zero_add];have e:=h.blk;simp[World.cell?,e,hi]
 ·simp only[Value.slice.injEq,Option.some.injEq,Addr.mk.injEq] at e;obtain⟨⟨rfl,_⟩,_⟩:=e;exact⟨_,_,h.blk⟩
abbrev isA(id:Int):Prop:=(1<=id/\id<=4)\/16<=id
abbrev xY(x k:Int):Prop:=x<=1000000000000000000/\k<=1000000000000000000 - x
end
end Bk
end Go.Proofs.YthfepflplbahkaaGreatDoor
