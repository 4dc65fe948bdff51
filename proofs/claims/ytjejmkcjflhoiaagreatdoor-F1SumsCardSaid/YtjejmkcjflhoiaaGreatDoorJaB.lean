import Derived.Test.YtjejmkcjflhoiaaGreatDoorJaA
set_option maxRecDepth 100000
set_option maxHeartbeats 8000000
namespace Go.Proofs.YtjejmkcjflhoiaaGreatDoor
namespace Fo
open Go.RowKit Go.Lib Pg Lim Gl Kv Bk Pw
set_option linter.unusedVariables false
set_option linter.unusedSimpArgs false
abbrev nv (r:Nx):Value:=.slice r.2.1 r.2.2.1 r.2.2.2.1
def up {α:Type} (f:Nat->α) (i:Nat) (x:α) (j:Nat):α:=if j=i then x else f j
def dC (s:Nat->Nx) (p:Nat->Int) (t:Nat->Nx):List Value:=[nv (s 0),.int .u64 (p 0),nv (t 0),nv (s 1),.int .u64 (p 1),nv (t 1),nv (s 2),.int .u64 (p 2),nv (t 2),nv (s 3),.int .u64 (p 3),nv (t 3)]
def hC (h:Nat->Bool):List Value:=[.bool (h 0),.bool (h 1),.bool (h 2),.bool (h 3)]
def dQ (s t:Nat->Nx):List Nx:=[s 0,s 1,s 2,s 3,t 0,t 1,t 2,t 3]
section
variable {i:Nat} {s t:Nat->Nx} {p:Nat->Int} {h:Nat->Bool} {x y:Nx} {q:Int} {b:Bool}
section
variable {f:Nat->Int}
theorem four(hi:i < 4):i=0\/i=1\/i=2\/i=3:=by omega
theorem BC(hi:i < 4)(hs:s i=x)(hp:p i=q)(ht:t i=y):((dC s p t).drop (i * 3)).take 3=[nv x,.int .u64 q,nv y]:=by subst hs hp ht;rcases four hi with rfl | rfl | rfl | rfl<;>rfl
theorem dC_s(hi:i < 4)(hs:s i=x):((dC s p t).drop (i * 3)).take 1=[nv x]:=by subst hs;rcases four hi with rfl | rfl | rfl | rfl<;>rfl
theorem dC_put(hi:i < 4):spl (dC s p t) (i * 3) [nv x,.int .u64 q,nv y]=dC (up s i x) (up p i q) (up t i y):=by rcases four hi with rfl | rfl | rfl | rfl<;>rfl
theorem dC_fit(hi:i < 4):Nat.ble (i * 3+3) (dC s p t).length=true:=by rcases four hi with rfl | rfl | rfl | rfl<;>rfl
theorem Fj(hi:i < 4):(hC h)[i]?=some (.bool (h i)):=by rcases four hi with rfl | rfl | rfl | rfl<;>rfl
theorem Bt(hi:i < 4):spl (hC h) i [.bool b]=hC (up h i b):=by rcases four hi with rfl | rfl | rfl | rfl<;>rfl
theorem Cv(hi:i < 4):Nat.ble (i+1) (hC h).length=true:=by rcases four hi with rfl | rfl | rfl | rfl<;>rfl
theorem dQ_s(hi:i < 4)(hs:s i=x):(dQ s t)[i]?=some x:=by subst hs;rcases four hi with rfl | rfl | rfl | rfl<;>rfl
theorem Cg(hi:i < 4)(ht:t i=y):(dQ s t)[i+4]?=some y:=by subst ht;rcases four hi with rfl | rfl | rfl | rfl<;>rfl
theorem dQ_up:∀ r∈dQ (up s i x) (up t i y),r=x\/r=y\/r∈dQ s t:=by
 have hs:∀ j,s j∈dQ s t->up s i x j=x\/up s i x j∈dQ s t:=fun j b=>by unfold up;split;exact .inl rfl;exact .inr b
 have a:∀ j,t j∈dQ s t->up t i y j=y\/up t i y j∈dQ s t:=fun j b=>by unfold up;split;exact .inl rfl;exact .inr b
 have m:∀ k r,(dQ s t)[k]?=some r->r∈dQ s t:=fun k r h=>List.mem_of_getElem? h
 unfold dQ at m hs a ⊢;intro r c;simp only[List.mem_cons,List.not_mem_nil,or_false] at c;rcases c with rfl | rfl | rfl | rfl | rfl | rfl | rfl | rfl
 ·exact(hs 0 (m 0 _ rfl)).imp_right .inr
 ·exact(hs 1 (m 1 _ rfl)).imp_right .inr
 ·exact(hs 2 (m 2 _ rfl)).imp_right .inr
 ·exact(hs 3 (m 3 _ rfl)).imp_right .inr
 ·exact .inr (a 0 (m 4 _ rfl))
 ·exact .inr (a 1 (m 5 _ rfl))
 ·exact .inr (a 2 (m 6 _ rfl))
 ·exact .inr (a 3 (m 7 _ rfl))
theorem Bf{s:Nat->Nx}(h:∀ j,(s j).2.2.2.2=f j){v:Int}(hx:x.2.2.2.2=v):∀ j,(up s i x j).2.2.2.2=up f i v j:=fun j=>by
 unfold up;split
 ·exact hx
 ·exact h j
theorem Ch{s:Nat->Nx}{k:Nat}(h:∀ j,(s j).2.2.1<=k)(hx:x.2.2.1<=k):∀ j,(up s i x j).2.2.1<=k:=fun j=>by
 unfold up;split
 ·exact hx
 ·exact h j
end
end
def Lh (h:Nat->Bool) (p:Nat->Int):List Int:=[0,1,2,3].filterMap (fun i=>if h i then some (p i) else none)
def num (h:Nat->Bool):Nat->Nat
 | 0=>0
 | n+1=>num h n+(if h n then 1 else 0)
def cV (h:Nat->Bool) (f:Nat->Int):Int:=(if h 0 then f 0 else 0)+(if h 1 then f 1 else 0)+(if h 2 then f 2 else 0)+(if h 3 then f 3 else 0)
section
variable {h:Nat->Bool} {p:Nat->Int} {i:Nat} {q:Int}
section
variable {f:Nat->Int}{l:List Nat}{g:Nat->Option Int}{R:Int->Int}
theorem qk{f:Nat->Option Int}(hi:i∈l):(l.filterMap f).Perm ((f i).toList ++ (l.erase i).filterMap f):=by
 have a:=(List.perm_cons_erase hi).filterMap f;refine a.trans ?_
 rw[List.filterMap_cons]
 cases f i<;>exact List.Perm.refl _
theorem sK{f:Nat->Option Int}:∀ {l:List Nat},(∀ j∈l,f j=g j)->l.filterMap f=l.filterMap g
 | [],_=>rfl
 | a :: l,h=>by
  rw[List.filterMap_cons,List.filterMap_cons,h a List.mem_cons_self,sK fun j hj=>h j (List.mem_cons_of_mem _ hj)]
theorem vT{f:Nat->Option Int}(e:∀ j,j≠i->f j=g j):([0,1,2,3].erase i).filterMap f=([0,1,2,3].erase i).filterMap g :=
 sK fun j hj=>e j ((List.Nodup.mem_erase_iff (by decide)).1 hj).1
theorem in4(hi:i < 4):i∈[0,1,2,3]:=by rcases four hi with rfl | rfl | rfl | rfl<;>decide
theorem DF(hi:i < 4)(h0:h i=false):(q :: Lh h p).Perm (Lh (up h i true) (up p i q)):=by
 have a:=qk (f:=fun i=>if h i then some (p i) else none) (in4 hi);have b:=qk (f:=fun j=>if up h i true j then some (up p i q j) else none) (in4 hi);rw[vT (g:=fun i=>if h i then some (p i) else none) (fun j c=>by unfold up;rw[if_neg c,if_neg c])] at b;simp only[h0,up,if_true] at a b;exact(List.Perm.cons q a).trans b.symm
theorem Ep(hi:i < 4)(d:h i=true):((Lh h p).erase (p i)).Perm (Lh (up h i false) p):=by
 have a:=qk (f:=fun i=>if h i then some (p i) else none) (in4 hi);have b:=qk (f:=fun j=>if up h i false j then some (p j) else none) (in4 hi);rw[vT (g:=fun i=>if h i then some (p i) else none) (fun j e=>by unfold up;rw[if_neg e])] at b;simp only[d,up,if_true] at a b;have c:=a.erase (p i);simp only[Option.toList,List.cons_append,List.nil_append,List.erase_cons_head] at c;exact c.trans b.symm
theorem nC(hi:i < 4)(h1:h i=true):p i∈Lh h p:=List.mem_filterMap.2 ⟨i,in4 hi,by rw[if_pos h1]⟩
theorem BD:(Lh h p).length=num h 4:=by
 unfold Lh num num num num num;simp only[List.filterMap_cons,List.filterMap_nil]
 cases h 0<;>cases h 1<;>cases h 2<;>cases h 3<;>rfl
theorem vm:∀ n,num h n<=n
 | 0=>Nat.le_refl _
 | n + 1=>by
  have:=vm n;unfold num;split<;>omega
theorem Fs.perm{E:aI}{id la:Int}{L L':List Int}{C:List (Int × Int × Int)}(F:Fs E id la R L C)(e:L.Perm L'):Fs E id la R L' C:=by
 have e1:fF R L C la=fF R L' C la:=funext fun x=>by unfold fF rf;rw[e.count_eq]
 refine⟨e1▸F.hs,F.ul,F.rng,fun x hx=>F.hL x (e.mem_iff.2 hx),F.hC,F.up,?_⟩;rw[<- e.length_eq];exact F.few
theorem Da(hi:i < 4)(h0:h i=false):cV (up h i true) (up f i q)=cV h f+q:=by
 unfold cV up;rcases four hi with rfl | rfl | rfl | rfl<;>simp[h0]<;>omega
theorem mW(hi:i < 4)(h0:h i=true):cV (up h i false) f=cV h f - f i:=by
 unfold cV up;rcases four hi with rfl | rfl | rfl | rfl<;>simp[h0]<;>omega
theorem wP(hf:∀ j,0<=f j):0<=cV h f:=by
 have h0:=hf 0;have h1:=hf 1;have h2:=hf 2;have h3:=hf 3;unfold cV
 repeat' split
 all_goals omega
theorem Ec(hi:i < 4)(h1:h i=true)(hf:∀ j,0<=f j):f i<=cV h f:=by
 have e:=mW (f:=f) hi h1;have:=wP (h:=up h i false) hf;omega
end
end
structure St where
 tk:Int
 la:Int
 R:Int->Int
 C:List (Int × Int × Int)
 hd:Nat->Bool
 pe:Nat->Int
 sh:Nat->Int
 st:Nat->Int
 cur:Int
 giv:Int
 fre:Int
 all:Int
def St.clo (s:St):St:={ s with la:=s.la+1,R:=upd s.R (s.la+1) (s.R s.la+s.cur / s.tk),cur:=0 }
def St.leave (s:St) (i:Nat):St:={ s with hd:=up s.hd i false,fre:=s.fre+s.sh i,all:=s.all+cmV s.R (aft s.C (s.pe i)) (s.pe i) s.la (s.st i) }
def St.join (T:Int) (s:St) (i:Nat) (z:Int):St:={ s with hd:=up s.hd i true,pe:=up s.pe i s.la,sh:=up s.sh i z,st:=up s.st i (z * (s.tk * U36) / T),fre:=s.fre - z }
def St.cut (s:St) (t:Int):St:={ s with tk:=t,C:=s.C ++ [(s.la,s.tk,t)] }
structure mK(T:Int)(s x:St):Prop where
 ex:(∃ r : Int, (0<=r/\r<=1000 * U36)/\x = { s with cur:=s.cur+r,giv:=s.giv+r })\/(x = s.clo)\/(∃ i : Nat, (i < 4)/\(s.hd i=true)/\x = (s.clo.leave i))\/(∃ i : Nat, ∃ z : Int, (i < 4)/\(s.hd i=false)/\(0<=z/\z<=s.fre)/\x = (s.clo.join T i z))\/(∃ t : Int, (1<=t/\t < s.tk)/\x = (s.clo.cut t))\/(x = s)
theorem mK.give{T}{s:St}(r:Int) (h:0<=r/\r<=1000 * U36):mK T s { s with cur:=s.cur+r,giv:=s.giv+r }:=⟨.inl ⟨r,h,rfl⟩⟩
theorem mK.clo{T}{s:St}:mK T s s.clo:=⟨.inr (.inl rfl)⟩
theorem mK.leave{T}{s:St}(i:Nat) (hi:i < 4) (h:s.hd i=true):mK T s (s.clo.leave i):=⟨.inr (.inr (.inl ⟨i,hi,h,rfl⟩))⟩
theorem mK.join{T}{s:St}(i:Nat) (z:Int) (hi:i < 4) (h:s.hd i=false) (hz:0<=z/\z<=s.fre):mK T s (s.clo.join T i z):=⟨.inr (.inr (.inr (.inl ⟨i,z,hi,h,hz,rfl⟩)))⟩
theorem mK.cut{T}{s:St}(t:Int) (h:1<=t/\t < s.tk):mK T s (s.clo.cut t):=⟨.inr (.inr (.inr (.inr (.inl ⟨t,h,rfl⟩))))⟩
theorem mK.skip{T}{s:St}:mK T s s:=⟨.inr (.inr (.inr (.inr (.inr (rfl)))))⟩
theorem mK.cs{T s}{M:∀ x,mK T s x->Prop}(give:∀ r h,M _ (mK.give r h))(clo:M _ mK.clo)(leave:∀ i hi h,M _ (mK.leave i hi h))(join:∀ i z hi h hz,M _ (mK.join i z hi h hz))(cut:∀ t h,M _ (mK.cut t h))(skip:M _ mK.skip){x}(hZ:mK T s x):M x hZ:=by
 rcases hZ.ex with ⟨r,h,rfl⟩|rfl|⟨i,hi,h,rfl⟩|⟨i,z,hi,h,hz,rfl⟩|⟨t,h,rfl⟩|rfl
 ·exact give r h
 ·exact clo
 ·exact leave i hi h
 ·exact join i z hi h hz
 ·exact cut t h
 ·exact skip
structure Iv (T:Int) (s:St) (m:Nat):Prop where
 tk:1<=s.tk/\s.tk<=1000000
 la:0<=s.la/\s.la<=m
 cur:0<=s.cur
 R:s.R s.la+s.cur<=m * (1000 * U36)
 C:s.C.length<=m
 sh:0<=s.fre/\∀ j,0<=s.sh j
 fre:s.fre+cV s.hd s.sh=T
section
variable {T:Int} {s s':St} {m k:Nat}
theorem Iv.mono (h:Iv T s m) (hk:m<=k):Iv T s k:=⟨h.tk,⟨h.la.1,by have:=h.la.2;omega⟩,h.cur,Int.le_trans h.R (Int.mul_le_mul_of_nonneg_right (by omega) (by decide)),Nat.le_trans h.C hk,h.sh,h.fre⟩
theorem Iv.div (h:Iv T s m):0<=s.cur / s.tk/\s.cur / s.tk<=s.cur:=⟨Int.ediv_nonneg h.cur (by have:=h.tk;omega),Int.ediv_le_self _ h.cur⟩
theorem Iv.clo (h:Iv T s m):Iv T s.clo (m+1):=by
 have hd:=h.div;have a:=h.R;refine⟨h.tk,⟨by have:=h.la;show 0<=s.la+1;omega,by have:=h.la;show s.la+1<=((m+1:Nat):Int);omega⟩,Int.le_refl _,?_,Nat.le_succ_of_le h.C,h.sh,h.fre⟩
 show upd s.R (s.la+1) (s.R s.la+s.cur / s.tk) (s.la+1)+0<=_
 unfold upd;rw[if_pos rfl,show (((m+1:Nat):Int))=(m:Int)+1 by omega,Int.add_mul];have:(0:Int)<=1 * (1000 * U36):=by decide
 omega
theorem Iv.lim (h:Iv T s m) (hm:m<=1000):s.R s.la+s.cur / s.tk < LIM:=by
 have hd:=h.div;have b:=h.R
 have c:(m:Int) * (1000 * U36)<=1000 * (1000 * U36):=Int.mul_le_mul_of_nonneg_right (by omega) (by decide)
 have a:(1000:Int) * (1000 * U36)<=1000000 * 18446744073709551616 ^ 4:=by decide
 exact CY (by omega)
theorem up_nn {f:Nat->Int} {i:Nat} {x:Int} (h:∀ j,0<=f j) (hx:0<=x):∀ j,0<=up f i x j:=fun j=>by
 unfold up;split
 ·exact hx
 ·exact h j
theorem mK.iv (h:mK T s s') (I:Iv T s m):Iv T s' (m+2):=by
 have c:=I.clo
 cases h using mK.cs with
 | give r hr =>
  have a:=I.R;refine⟨I.tk,⟨I.la.1,by have:=I.la.2;show s.la<=((m+2:Nat):Int);omega⟩,by have:=I.cur;show 0<=s.cur+r;omega,?_,Nat.le_trans I.C (by omega),I.sh,I.fre⟩
  show s.R s.la+(s.cur+r)<=_
  rw[show (((m+2:Nat):Int))=(m:Int)+2 by omega,Int.add_mul];have:(0:Int)<=1 * (1000 * U36):=by decide
  omega
 | clo=>exact c.mono (by omega)
 | leave i hi hh =>
  refine Iv.mono (m:=m+1) ⟨c.tk,c.la,c.cur,c.R,c.C,⟨?_,c.sh.2⟩,?_⟩ (by omega)
  ·have:=c.sh.1;have:=c.sh.2 i
   show 0<=s.clo.fre+s.clo.sh i
   omega
  ·have:=c.fre
   show s.clo.fre+s.clo.sh i+cV (up s.clo.hd i false) s.clo.sh=T
   rw[mW hi (show s.clo.hd i=true from hh)];omega
 | join i z hi hh hz =>
  refine Iv.mono (m:=m+1) ⟨c.tk,c.la,c.cur,c.R,c.C,⟨?_,up_nn c.sh.2 hz.1⟩,?_⟩ (by omega)
  ·show 0<=s.clo.fre - z
   have:s.clo.fre=s.fre:=rfl;omega
  ·have:=c.fre
   show s.clo.fre - z+cV (up s.clo.hd i true) (up s.clo.sh i z)=T
   rw[Da hi (show s.clo.hd i=false from hh)];omega
 | cut t ht =>
  refine⟨⟨ht.1,by have:=I.tk;show t<=1000000;omega⟩,⟨c.la.1,by have:=c.la.2;show s.clo.la<=((m+2:Nat):Int);omega⟩,c.cur,Int.le_trans c.R (Int.mul_le_mul_of_nonneg_right (by omega) (by decide)),?_,c.sh,c.fre⟩;have:=c.C
  show (s.clo.C ++ [(s.clo.la,s.clo.tk,t)]).length<=m+2
  rw[List.length_append];simp only[List.length_cons,List.length_nil];omega
 | skip=>exact I.mono (by omega)
end
section
variable {w0 w w':World} {B g0 n N g i:Nat} {K:Nat->Prop} {E:aI} {bs bs':List Bx} {qs qs':List Nx}
theorem Un.pick (h:Un w0 B g0 w K E n N bs qs) (k:Nat) (hb:bs.drop k=bs') (f:∀ r∈qs',r∈qs):Un w0 B g0 w K E n N bs' qs':=by
 subst hb
 have g:∀ p∈bs.drop k,p∈bs:=fun p a=>List.mem_of_mem_drop a
 exact⟨h.bb,h.lo,h.sx,fun p a=>h.b p (g p a),fun r c=>h.q r (f r c),fun p a r c=>h.e p (g p a) r (f r c),h.d.sublist (List.drop_sublist _ _)⟩
theorem Un.base {v:World} (h:Un w B g0 v K E n N bs qs) (b:Below w0.heap.size w0 w):Un w0 B g0 v K E n N bs qs:=⟨aB b h.bb,Nat.le_trans b.size h.lo,h.sx,fun p a=>⟨(h.b p a).1,(h.b p a).2.1,Nat.le_trans b.size (h.b p a).2.2⟩,h.q,h.e,h.d⟩
theorem aJ {l:List Nx} {x:Nx} (k:Nat) (h:l[k]?=some x):x∈l:=List.mem_of_getElem? h
theorem cU {l r:List Nx} (k:Nat) (h:l.drop k=r):∀ x∈r,x∈l:=fun x hx=>List.mem_of_mem_drop (h▸hx)
end
section
variable {w0 w:World}{g0 gr gd gh:Nat}{T:Int}
theorem oL{x0 x1 x2 x3 x4 a b:Nx}{T l:List Nx}(h0:x0∈l)(g:x1∈l)(c:x2∈l)(d:x3∈l)(f:x4∈l)(i:a∈l)(e:b∈l)(h:∀ r∈T,r∈l):∀ r∈x0 :: x1 :: x2 :: x3 :: x4 :: a :: b :: T,r∈l:=by
 simp only[List.forall_mem_cons];exact⟨h0,g,c,d,f,i,e,h⟩
theorem mem_up{i:Nat}{s t:Nat->Nx}{x y:Nx}{l:List Nx}(hx:x∈l)(hy:y∈l)(h:∀ r∈dQ s t,r∈l):∀ r∈dQ (up s i x) (up t i y),r∈l:=fun r a=>by
 rcases dQ_up r a with e | e | e
 ·rw[e];exact hx
 ·rw[e];exact hy
 ·exact h r e
def rC(g0 gd gh:Nat)(tk pe il:Int)(v0 v1 v2 v3 v4 v5 v6:Value):List Value:=[pg g0,.int .u64 0,.int .u64 tk,v0,.bool false,.int .u64 0,.bool false,.int .u64 pe,v1,v2,v3,.slice (some ⟨gd,0,none⟩) 4 4,.slice (some ⟨gh,0,none⟩) 4 4,.int .i64 il,v4,v5,v6]
structure Ru(w0:World)(B g0 gr gd gh:Nat)(T:Int)(w:World)(s:St)(m:Nat):Prop where
 ex:∃ K E n N a0 n0 c0 z0 a1 n1 c1 z1 a2 n2 c2 z2 a3 n3 c3 z3 a4 n4 c4 z4 a5 n5 c5 z5 a6 n6 c6 z6 x2 x3 u t,Un w0 B g0 w K E n N [(gr,rC g0 gd gh s.tk (s.la+1) ((s.C.length:Nat):Int) (.slice a0 n0 c0) (.slice a1 n1 c1) (.slice a2 n2 c2) (.slice a3 n3 c3) (.slice a4 n4 c4) (.slice a5 n5 c5) (.slice a6 n6 c6),43),(gd,dC u s.pe t,53),(gh,hC s.hd,4)] ((z0,a0,n0,c0,T) :: (z1,a1,n1,c1,s.cur) :: (z2,a2,n2,c2,x2) :: (z3,a3,n3,c3,x3) :: (z4,a4,n4,c4,s.giv) :: (z5,a5,n5,c5,s.fre) :: (z6,a6,n6,c6,s.all) :: dQ u t)/\Fs E 16 s.la s.R (Lh s.hd s.pe) s.C/\((∀ j,(u j).2.2.2.2=s.sh j)/\∀ j,(t j).2.2.2.2=s.st j)/\(n<=1000000 * (m+1)/\N<=100 * (m+1))/\(n0<=50+2 * m/\n1<=50 * m/\n2<=5+2 * m/\n3<=5+2 * m/\n4<=50 * m/\n5<=50/\n6<=1000000001 * m)/\((∀ j,(u j).2.2.1<=60)/\∀ j,(t j).2.2.1<=200+2 * m)
theorem Ru.bb{B m:Nat}{s:St}(h:Ru w0 B g0 gr gd gh T w s m):Below w0.heap.size w0 w:=by
 obtain⟨_,_,_,_,_,_,_,_,_,_,_,_,_,_,_,_,_,_,_,_,_,_,_,_,_,_,_,_,_,_,_,_,_,_,_,_,U,_⟩:=h.ex;exact U.bb
theorem Ru.base{v:World}{B m:Nat}{s:St}(h:Ru w B g0 gr gd gh T v s m)(b:Below w0.heap.size w0 w):Ru w0 B g0 gr gd gh T v s m:=by
 obtain⟨K,E,n,N,a0,n0,c0,z0,a1,o,c1,z1,a2,q,c2,z2,a3,d,c3,z3,a4,e,f,z4,a5,a,j,z5,l,g,p,i,k,c,u,t,U,r⟩:=h.ex;exact⟨K,E,n,N,a0,n0,c0,z0,a1,o,c1,z1,a2,q,c2,z2,a3,d,c3,z3,a4,e,f,z4,a5,a,j,z5,l,g,p,i,k,c,u,t,U.base b,r⟩
end
end Fo
end Go.Proofs.YtjejmkcjflhoiaaGreatDoor
