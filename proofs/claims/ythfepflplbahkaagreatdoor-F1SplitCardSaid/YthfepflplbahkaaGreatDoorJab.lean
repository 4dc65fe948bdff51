import Derived.Test.YthfepflplbahkaaGreatDoorJaa
import Derived.Handy
set_option maxRecDepth 100000
set_option maxHeartbeats 8000000
namespace Go.Proofs.YthfepflplbahkaaGreatDoor
section
namespace Fo
open Go.RowKit Lim
section
variable {w:World}{v:Value}{r:List Int}{x y:Int}{ao ao':Option Addr}{n c n' c':Nat}
structure qI(w:World)(B T:Nat)(ao:Option Addr)(n c:Nat)(x:Int):Prop where
 ex:∃ b o l,l.length=n/\n<=c/\IsN l x/\At w ao b o l/\dB w b o n/\(l=[]\/(B<=b/\b < T))
theorem mm(w:World)(B T:Nat):qI w B T none 0 0 0:=⟨0,0,[],rfl,Nat.le_refl _,jw,⟨.inl rfl,fun i hi=>by simp at hi⟩,fun i hi=>by omega,.inl rfl⟩
theorem kx{w':World}(h:dC w w' v r)(f:IsN r x):∃ a c,v=.slice a r.length c/\qI w' w.heap.size w'.heap.size a r.length c x:=by
 obtain⟨j,b,o,c,e,g,k,d,i⟩:=h.is;refine⟨j,c,e,b,o,r,rfl,g,f,d,i,?_⟩;rcases d.lt with e | e
 ·exact .inl e
 ·exact .inr ⟨k,e⟩
def gY(x y:Int):Int:=if y<=x then x - y else 0
def ky(x y:Int):Int:=if y<=x then 0 else 10
theorem fAdd(h:aV w ao n c x)(E:aV w ao' n' c' y)(hn:n<=1099511627776)(f:n'<=1099511627776) :
  Calls Tryz.prog 23 #[.slice ao n c,.slice ao' n' c'] w fun e w'=>∃ a k d,e=.returned (.slice a k d)/\qI w' w.heap.size w'.heap.size a k d (x + y)/\k<=n + n' + 1/\Below w.heap.size w w':=by
 obtain⟨b,o,l,B,u,A,C,rfl⟩:=h.ex;obtain⟨D,s,t,p,g,m,j,rfl⟩:=E.ex;refine(BE ao n c b o ao' n' c' D s l t w B p u g hn f A m C j).mono ?_
 rintro e w' ⟨v,r,rfl,i,z,hlen,F⟩;obtain⟨a,d,rfl,q⟩:=kx i z;exact⟨a,_,d,rfl,q,hlen,F⟩
theorem fMul(h:aV w ao n c x)(E:aV w ao' n' c' y)(hn:n<=1099511627776)(f:n'<=1099511627776) :
  Calls Tryz.prog 24 #[.slice ao n c,.slice ao' n' c'] w fun e w'=>∃ a k d,e=.returned (.slice a k d)/\qI w' w.heap.size w'.heap.size a k d (x * y)/\k<=n + n'/\Below w.heap.size w w':=by
 obtain⟨b,o,l,B,u,A,C,rfl⟩:=h.ex;obtain⟨D,s,t,p,g,m,j,rfl⟩:=E.ex;refine(qt ao n c b o ao' n' c' D s l t w B p u g hn f A m C j).mono ?_
 rintro e w' ⟨v,r,rfl,i,z,hlen,F⟩;obtain⟨a,d,rfl,q⟩:=kx i z;exact⟨a,_,d,rfl,q,hlen,F⟩
theorem fSub(h:aV w ao n c x)(G:aV w ao' n' c' y)(hn:n<=1099511627776)(g:n'<=1099511627776) :
  Calls Tryz.prog 72 #[.slice ao n c,.slice ao' n' c'] w fun e w'=>∃ a k d,e=.returned (.tuple #[.slice a k d,.int .i64 (ky x y)])/\qI w' w.heap.size w'.heap.size a k d (gY x y)/\k<=n/\Below w.heap.size w w':=by
 obtain⟨b,o,l,B,z,A,C,rfl⟩:=h.ex;obtain⟨D,u,q,p,i,m,j,rfl⟩:=G.ex;unfold ky gY;by_cases f:val q<=val l
 ·rw[if_pos f,if_pos f];refine(sub_ge ao n c b o ao' n' c' D u l q w B p z i hn g A m C j f).mono ?_
  rintro e w' ⟨v,r,rfl,s,F,hlen,t⟩;obtain⟨a,d,rfl,E⟩:=kx s F;exact⟨a,_,d,rfl,E,hlen,t⟩
 ·rw[if_neg f,if_neg f];refine(sub_lt ao n c b o ao' n' c' D u l q w B p z i hn g A m C j (by omega)).mono ?_
  rintro e w' ⟨rfl,t⟩;exact⟨none,0,0,rfl,mm _ _ _,Nat.zero_le _,t⟩
def DD(x y:Int):Int:=if y=0 then 0 else x % y
def jj(y:Int):Int:=if y=0 then 11 else 0
theorem Bf{ad:Option Addr}{g t:Nat}{z:Int}(h:aV w ao n c x)(L:aV w ao' n' c' y)(M:aV w ad g t z)(hn:n<=274877906944)(j:n'<=274877906944)(i:g<=274877906944) :
  Calls Tryz.prog 93 #[.slice ao n c,.slice ao' n' c',.slice ad g t] w fun e w'=>∃ a k d a' k' d',e=.returned (.tuple #[.slice a k d,.slice a' k' d',.int .i64 (jj z)])/\qI w' w.heap.size w'.heap.size a k d (x * y / z)/\qI w' w.heap.size w'.heap.size a' k' d' (DD (x * y) z)/\k<=n + n'/\k'<=n + n' + g/\Below w.heap.size w w':=by
 by_cases f:z=0
 ·unfold DD jj;rw[if_pos f,if_pos f]
  have W:x * y / z=0:=by rw[f,Int.ediv_zero]
  rw[W];refine(rL h L M hn j i f).mono ?_
  rintro e w' ⟨rfl,D⟩;exact⟨none,0,0,none,0,0,rfl,mm _ _ _,mm _ _ _,Nat.zero_le _,Nat.zero_le _,D⟩
 ·unfold DD jj;rw[if_neg f,if_neg f];obtain⟨b,o,l,R,X,Y,S,rfl⟩:=h.ex;obtain⟨b',V,O,F,p,K,I,rfl⟩:=L.ex;obtain⟨Q,U,T,B,J,A,q,rfl⟩:=M.ex;refine(r9 ao n c b o ao' n' c' b' V ad g t Q U l O T w R F B X p J hn j i Y K A S I q f).mono ?_
  rintro e w' ⟨v,u,r,s,rfl,G,E,P,Z,C,H,D⟩;obtain⟨a,d,rfl,N⟩:=kx G P;obtain⟨a',d',rfl,m⟩:=kx E Z;exact⟨a,_,d,a',_,d',rfl,N,m,C,H,D⟩
end
end Fo
end
section
open Go.RowKit Lim
section
variable {w:World}{ao ao':Option Addr}{n c:Nat}{x:Int}
theorem dCmp{n' c':Nat}{y:Int}(h:aV w ao n c x)(d:aV w ao' n' c' y)(hn:n<=1099511627776)(g:n'<=1099511627776) :
  Calls Tryz.prog 28 #[.agg #[.slice ao n c],.agg #[.slice ao' n' c']] w fun e w'=>e=.returned (.int .i64 (sgn x y))/\Below w.heap.size w w':=by
 have b:=lO w (.cells #[.slice ao n c] 32) (.cells #[.slice ao' n' c'] 32);have h:=h.keep b
 have d:=d.keep b;go_enter Tryz.func28,Tryz.ntmps28;go_wp2_with fail;refine(nCmp h d hn g).mono ?_
 rintro e i ⟨rfl,f⟩;go_wp2;go_ret;exact⟨rfl,aj b f⟩
theorem DX(h:aV w ao n c x)(hn:n<=1099511627776) :
  Calls Tryz.prog 21 #[.agg #[.slice ao n c]] w fun e w'=>e=.returned (.bool (decide (x=0)))/\Below w.heap.size w w':=by
 have b:=ae w (.cells #[.slice ao n c] 32);have h:=h.keep b;have t:=nBits h hn;have hm:=ra x h.oY;by_cases hx:x=0
 ·have hm:=hm.2 hx;rw[hm] at t;rw[decide_eq_true hx];clear hm hx h;go_enter Tryz.func21,Tryz.ntmps21;go_wp2_with fail;refine t.mono ?_
  rintro e f ⟨rfl,d⟩;go_wp2;go_ret;exact⟨rfl,aj b d⟩
 ·have hm:bitLen x.toNat≠0:=fun e=>hx (hm.1 e)
  rw[decide_eq_false hx];generalize bitLen x.toNat=m at *;obtain⟨k,rfl⟩:∃ k,m=k + 1:=⟨m - 1,by omega⟩
  clear hm hx h;go_enter Tryz.func21,Tryz.ntmps21;go_wp2_with fail;refine t.mono ?_
  rintro e f ⟨rfl,d⟩;go_wp2;go_ret;refine⟨?_,aj b d⟩;congr 2
theorem zt(n:Nat)(hn:n<=4096) :
  Calls Tryz.prog 111 #[.int .i64 n] w fun e w'=>∃ a k d,e=.returned (.slice a k d)/\dX w' a k d (10 ^ n)/\k<=n + 2/\Below w.heap.size w w':=by
 go_enter Tryz.func111,Tryz.ntmps111;go_wp2_with fail;refine(nPow n hn).mono ?_
 rintro e g ⟨a,k,d,rfl,b,c,f⟩;go_wp2;go_ret;exact⟨a,k,d,rfl,b,c,f⟩
def U36:Int:=10 ^ 36
theorem Ce:0 < U36:=by decide
theorem qy:Calls Tryz.prog 71 #[] w fun e w'=>∃ a k d,e=.returned (.slice a k d)/\dX w' a k d U36/\k<=38/\Below w.heap.size w w':=by
 go_enter Tryz.func71,Tryz.ntmps71;go_wp2_with fail;refine(zt 36 (by decide)).mono ?_
 rintro e g ⟨a,k,d,rfl,b,c,f⟩;go_wp2;go_ret;exact⟨a,k,d,rfl,b,c,f⟩
theorem dOfNat(h:aV w ao n c x)(hn:n<=1099511627776) :
  Calls Tryz.prog 46 #[.slice ao n c] w fun e w'=>∃ a k d,e=.returned (.agg #[.slice a k d])/\dX w' a k d (x * U36)/\k<=n + 38/\Below w.heap.size w w':=by
 have f:=ae w (.cells #[.slice none 0 0] 32);have m:=eK w (.slice none 0 0) 32;have h:=h.keep f;go_enter Tryz.func46,Tryz.ntmps46;go_wp2_with fail;refine qy.mono ?_
 rintro e z ⟨a,k,d,rfl,r,y,b⟩;have h:=h.keep b;have m:=m.keep b;have f:=aj f b;clear b;go_wp2_with fail;refine(nMul h r.a hn (by omega)).mono ?_
 rintro e v ⟨o,l,p,rfl,j,u,b⟩;have i:=m.keep b;have c1:=i.cell;have f1:=i.free;have t:=i.put (.slice o l p);have q:=j.put i oW (.slice o l p);have s:=rG f b (g:=w.heap.size) (Nat.le_refl _) (.slice o l p);clear h r j b m i f;go_wp2;refine bodyPost_ret (ly rfl rfl t) rfl ?_
 exact⟨o,l,p,rfl,q,by omega,s⟩
theorem dTrunc(h:aV w ao n c x)(hn:n<=1099511627776) :
  Calls Tryz.prog 37 #[.agg #[.slice ao n c]] w fun e w'=>∃ a k d a' k' d',e=.returned (.tuple #[.slice a k d,.agg #[.slice a' k' d']])/\dX w' a k d (x / U36)/\dX w' a' k' d' (x % U36)/\k<=n/\k'<=n + 38/\Below w.heap.size w w':=by
 have l:=lO w (.cells #[.slice ao n c] 32) (.cells #[.slice none 0 0] 32);have o:=mL w (.cells #[.slice ao n c] 32) (.slice none 0 0) 32;have m:=(eK w (.slice ao n c) 32).alloc (.cells #[.slice none 0 0] 32);have h:=h.keep l;go_enter Tryz.func37,Tryz.ntmps37;go_wp2_with fail
 go_region_with (first
  | (go_at_call 71; refine qy.mono ?_; rintro e v ⟨a,k,d,rfl,q,z,b⟩; have o:=o.drew.keep b; have m:=m.drew.keep b; have r:=m.cell; have l:=aj l.drew b; have h:=h.drew.keep b; clear b)
  | (go_at_call 70; refine(nDiv h q.a hn (by omega) (by decide)).mono ?_; rintro e y ⟨a1,k1,d1,a2,k2,d2,rfl,i,f,p,u,b⟩; have j:=o.keep b; have c1:=j.cell; have f1:=j.free; have s:=j.put (.slice a2 k2 d2); have i:=i.put j oW (.slice a2 k2 d2); have f:=f.put j oW (.slice a2 k2 d2); have t:=rG l b (g:=w.heap.size + 1) (by omega) (.slice a2 k2 d2); clear h q b o j l r m))
 all_goals go_wp2
 all_goals refine bodyPost_ret (rp rfl rfl rfl s) rfl ?_
 all_goals exact⟨a1,k1,d1,a2,k2,d2,rfl,i,f,p,by omega,t⟩
end
end
end Go.Proofs.YthfepflplbahkaaGreatDoor
