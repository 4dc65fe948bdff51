/- Several texts, joined: FoF, Dec1. -/
import Derived.Test.YthfepflplbahkaaGreatDoorJaa
import Derived.Handy
set_option maxRecDepth 100000
set_option maxHeartbeats 8000000
namespace Go.Proofs.YthfepflplbahkaaGreatDoor
section
namespace Fo
open Go.RowKit Lim
section
variable {w:World}{ao ao':Option Addr}{n c n' c':Nat}{x y:Int}{v:Value}{r:List Int}
structure nW(w:World)(B T:Nat)(ao:Option Addr)(n c:Nat)(x:Int):Prop where
 ex:∃ b o l,l.length=n/\n<=c/\IsN l x/\At w ao b o l/\dW w b o n/\(l=[]\/(B<=b/\b < T))
theorem nW.o{B T:Nat}(h:nW w B T ao n c x):bQ w ao n c x:=by
 obtain⟨b,o,l,h1,h2,h3,h4,_⟩:=h.ex;exact⟨b,o,l,h1,h2,h3,h4⟩
theorem jk(w:World)(B T:Nat):nW w B T none 0 0 0:=⟨0,0,[],rfl,Nat.le_refl _,l4,⟨.inl rfl,fun i hi=>by simp at hi⟩,fun i hi=>by omega,.inl rfl⟩
theorem ju{w':World}(h:ey w w' v r)(i:IsN r x):∃ a c,v=.slice a r.length c/\nW w' w.heap.size w'.heap.size a r.length c x:=by
 obtain⟨g,b,o,c,e,k,f,d,j⟩:=h.is;refine⟨g,c,e,b,o,r,rfl,k,i,d,j,?_⟩;rcases d.lt with e | e
 ·exact .inl e
 ·exact .inr ⟨f,e⟩
def iw(x y:Int):Int:=if y<=x then x - y else 0
def nh(x y:Int):Int:=if y<=x then 0 else 10
theorem fAdd(h:aN w ao n c x)(z:aN w ao' n' c' y)(hn:n<=1099511627776)(g:n'<=1099511627776) :
  Calls Tryz.prog 23 #[.slice ao n c,.slice ao' n' c'] w fun e w'=>∃ a k d,e=.returned (.slice a k d)/\nW w' w.heap.size w'.heap.size a k d (x + y)/\k<=n + n' + 1/\Below w.heap.size w w':=by
 obtain⟨b,o,l,E,q,D,B,rfl⟩:=h.ex;obtain⟨A,t,s,m,i,j,f,rfl⟩:=z.ex;refine(yz ao n c b o ao' n' c' A t l s w E m q i hn g D j B f).mono ?_
 rintro e w' ⟨v,r,rfl,p,u,hlen,F⟩;obtain⟨a,d,rfl,C⟩:=ju p u;exact⟨a,_,d,rfl,C,hlen,F⟩
theorem fMul(h:aN w ao n c x)(z:aN w ao' n' c' y)(hn:n<=1099511627776)(g:n'<=1099511627776) :
  Calls Tryz.prog 24 #[.slice ao n c,.slice ao' n' c'] w fun e w'=>∃ a k d,e=.returned (.slice a k d)/\nW w' w.heap.size w'.heap.size a k d (x * y)/\k<=n + n'/\Below w.heap.size w w':=by
 obtain⟨b,o,l,E,q,D,B,rfl⟩:=h.ex;obtain⟨A,t,s,m,i,j,f,rfl⟩:=z.ex;refine(oB ao n c b o ao' n' c' A t l s w E m q i hn g D j B f).mono ?_
 rintro e w' ⟨v,r,rfl,p,u,hlen,F⟩;obtain⟨a,d,rfl,C⟩:=ju p u;exact⟨a,_,d,rfl,C,hlen,F⟩
theorem fSub(h:aN w ao n c x)(F:aN w ao' n' c' y)(hn:n<=1099511627776)(i:n'<=1099511627776) :
  Calls Tryz.prog 72 #[.slice ao n c,.slice ao' n' c'] w fun e w'=>∃ a k d,e=.returned (.tuple #[.slice a k d,.int .i64 (nh x y)])/\nW w' w.heap.size w'.heap.size a k d (iw x y)/\k<=n/\Below w.heap.size w w':=by
 obtain⟨b,o,l,D,u,C,B,rfl⟩:=h.ex;obtain⟨A,z,q,p,j,m,g,rfl⟩:=F.ex;unfold nh iw;by_cases f:val q<=val l
 ·rw[if_pos f,if_pos f];refine(DR ao n c b o ao' n' c' A z l q w D p u j hn i C m B g f).mono ?_
  rintro e w' ⟨v,r,rfl,s,E,hlen,t⟩;obtain⟨a,d,rfl,G⟩:=ju s E;exact⟨a,_,d,rfl,G,hlen,t⟩
 ·rw[if_neg f,if_neg f];refine(sub_lt ao n c b o ao' n' c' A z l q w D p u j hn i C m B g (by omega)).mono ?_
  rintro e w' ⟨rfl,t⟩;exact⟨none,0,0,rfl,jk _ _ _,Nat.zero_le _,t⟩
def uS(x y:Int):Int:=if y=0 then 0 else x % y
def jg(y:Int):Int:=if y=0 then 11 else 0
theorem fDiv(h:aN w ao n c x)(C:aN w ao' n' c' y)(hn:n<=1099511627776)(g:n'<=1099511627776) :
  Calls Tryz.prog 70 #[.slice ao n c,.slice ao' n' c'] w fun e w'=>∃ a k d a' k' d',e=.returned (.tuple #[.slice a k d,.slice a' k' d',.int .i64 (jg y)])/\nW w' w.heap.size w'.heap.size a k d (x / y)/\nW w' w.heap.size w'.heap.size a' k' d' (uS x y)/\k<=n/\k'<=n + n'/\Below w.heap.size w w':=by
 by_cases f:y=0
 ·unfold uS jg;rw[if_pos f,if_pos f,f,Int.ediv_zero];refine(uz C g f).mono ?_
  rintro e w' ⟨rfl,rfl⟩;exact⟨none,0,0,none,0,0,rfl,jk _ _ _,jk _ _ _,Nat.zero_le _,Nat.zero_le _,Below.refl _ _⟩
 ·unfold uS jg;rw[if_neg f,if_neg f];obtain⟨b,o,l,N,J,H,M,rfl⟩:=h.ex;obtain⟨F,E,D,B,t,z,j,rfl⟩:=C.ex;refine(sW ao n c b o ao' n' c' F E l D w N B J t hn g H z M j f).mono ?_
  rintro e w' ⟨v,u,r,s,rfl,m,i,K,L,p,A,I⟩;obtain⟨a,d,rfl,G⟩:=ju m K;obtain⟨a',d',rfl,q⟩:=ju i L;exact⟨a,_,d,a',_,d',rfl,G,q,p,A,I⟩
theorem GV{ad:Option Addr}{j K:Nat}{z:Int}(h:aN w ao n c x)(L:aN w ao' n' c' y)(M:aN w ad j K z)(hn:n<=274877906944)(g:n'<=274877906944)(i:j<=274877906944) :
  Calls Tryz.prog 93 #[.slice ao n c,.slice ao' n' c',.slice ad j K] w fun e w'=>∃ a k d a' k' d',e=.returned (.tuple #[.slice a k d,.slice a' k' d',.int .i64 (jg z)])/\nW w' w.heap.size w'.heap.size a k d (x * y / z)/\nW w' w.heap.size w'.heap.size a' k' d' (uS (x * y) z)/\k<=n + n'/\k'<=n + n' + j/\Below w.heap.size w w':=by
 by_cases f:z=0
 ·unfold uS jg;rw[if_pos f,if_pos f]
  have R:x * y / z=0:=by rw[f,Int.ediv_zero]
  rw[R];refine(nA h L M hn g i f).mono ?_
  rintro e w' ⟨rfl,B⟩;exact⟨none,0,0,none,0,0,rfl,jk _ _ _,jk _ _ _,Nat.zero_le _,Nat.zero_le _,B⟩
 ·unfold uS jg;rw[if_neg f,if_neg f];obtain⟨b,o,l,h1,U,T,Y,rfl⟩:=h.ex;obtain⟨Q,O,N,J,G,H,q,rfl⟩:=L.ex;obtain⟨X,Z,P,m,t,F,E,rfl⟩:=M.ex;refine(pF ao n c b o ao' n' c' Q O ad j K X Z l N P w h1 J m U G t hn g i T H F Y q E f).mono ?_
  rintro e w' ⟨v,u,r,s,rfl,A,p,V,W,C,I,B⟩;obtain⟨a,d,rfl,S⟩:=ju A V;obtain⟨a',d',rfl,D⟩:=ju p W;exact⟨a,_,d,a',_,d',rfl,S,D,C,I,B⟩
end
end Fo
end
section
open Go.RowKit Lim
section
variable {w:World}{ao ao':Option Addr}{n c n' c':Nat}{x y:Int}
theorem dAdd(h:aN w ao n c x)(h':aN w ao' n' c' y)(hn:n<=1099511627776)(hn':n'<=1099511627776) :
  Calls Tryz.prog 27 #[.agg #[.slice ao n c],.agg #[.slice ao' n' c']] w fun e w'=>∃ a k d,e=.returned (.agg #[.slice a k d])/\bQ w' a k d (x + y)/\k<=n + n' + 1/\Below w.heap.size w w':=by
 have B0:=fJ w (.cells #[.slice ao n c] 32) (.cells #[.slice ao' n' c'] 32) (.cells #[.slice none 0 0] 32);have S0:=gT w (.cells #[.slice ao n c] 32) (.cells #[.slice ao' n' c'] 32) (.slice none 0 0) 32;have h:=h.keep B0
 have h':=h'.keep B0;go_enter Tryz.func27,Tryz.ntmps27;go_wp2_with fail;refine(nAdd h h' hn hn').mono ?_
 rintro e w1 ⟨a,k,d,rfl,hO,hk,hB⟩;have S1:=S0.keep hB;have c1:=S1.cell;have f1:=S1.free;have S2:=S1.put (.slice a k d);have hO1:=hO.put S1 eQ (.slice a k d);have HB:=eK B0 hB (g:=w.heap.size + 1 + 1) (by omega) (.slice a k d);clear h h' hO hB S0 S1 B0;go_wp2;refine bodyPost_ret (eU rfl rfl S2) rfl ?_
 exact⟨a,k,d,rfl,hO1,hk,HB⟩
theorem dCmp(h:aN w ao n c x)(h':aN w ao' n' c' y)(hn:n<=1099511627776)(hn':n'<=1099511627776) :
  Calls Tryz.prog 28 #[.agg #[.slice ao n c],.agg #[.slice ao' n' c']] w fun e w'=>e=.returned (.int .i64 (sgn x y))/\Below w.heap.size w w':=by
 have B0:=kM w (.cells #[.slice ao n c] 32) (.cells #[.slice ao' n' c'] 32);have h:=h.keep B0
 have h':=h'.keep B0;go_enter Tryz.func28,Tryz.ntmps28;go_wp2_with fail;refine(nCmp h h' hn hn').mono ?_
 rintro e w1 ⟨rfl,hB⟩;go_wp2;go_ret;exact⟨rfl,ai B0 hB⟩
theorem Ht(h:aN w ao n c x)(hn:n<=1099511627776) :
  Calls Tryz.prog 21 #[.agg #[.slice ao n c]] w fun e w'=>e=.returned (.bool (decide (x=0)))/\Below w.heap.size w w':=by
 have B0:=ae w (.cells #[.slice ao n c] 32);have h:=h.keep B0;have t:=nBits h hn;have hm:=vj x h.mT;by_cases hx:x=0
 ·have hm:=hm.2 hx;rw[hm] at t;rw[decide_eq_true hx];clear hm hx h;go_enter Tryz.func21,Tryz.ntmps21;go_wp2_with fail;refine t.mono ?_
  rintro e w1 ⟨rfl,hB⟩;go_wp2;go_ret;exact⟨rfl,ai B0 hB⟩
 ·have hm:bitLen x.toNat≠0:=fun e=>hx (hm.1 e)
  rw[decide_eq_false hx];generalize bitLen x.toNat=m at *;obtain⟨k,rfl⟩:∃ k,m=k + 1:=⟨m - 1,by omega⟩
  clear hm hx h;go_enter Tryz.func21,Tryz.ntmps21;go_wp2_with fail;refine t.mono ?_
  rintro e w1 ⟨rfl,hB⟩;go_wp2;go_ret;refine⟨?_,ai B0 hB⟩;congr 2
theorem EF(n:Nat)(hn:n<=4096) :
  Calls Tryz.prog 111 #[.int .i64 n] w fun e w'=>∃ a k d,e=.returned (.slice a k d)/\bQ w' a k d (10 ^ n)/\k<=n + 2/\Below w.heap.size w w':=by
 go_enter Tryz.func111,Tryz.ntmps111;go_wp2_with fail;refine(nPow n hn).mono ?_
 rintro e w1 ⟨a,k,d,rfl,hO,hk,hB⟩;go_wp2;go_ret;exact⟨a,k,d,rfl,hO,hk,hB⟩
def U36:Int:=10 ^ 36
theorem sk:0 < U36:=by decide
theorem ql:Calls Tryz.prog 71 #[] w fun e w'=>∃ a k d,e=.returned (.slice a k d)/\bQ w' a k d U36/\k<=38/\Below w.heap.size w w':=by
 go_enter Tryz.func71,Tryz.ntmps71;go_wp2_with fail;refine(EF 36 (by decide)).mono ?_
 rintro e w1 ⟨a,k,d,rfl,hO,hk,hB⟩;go_wp2;go_ret;exact⟨a,k,d,rfl,hO,hk,hB⟩
theorem dOfNat(h:aN w ao n c x)(hn:n<=1099511627776) :
  Calls Tryz.prog 46 #[.slice ao n c] w fun e w'=>∃ a k d,e=.returned (.agg #[.slice a k d])/\bQ w' a k d (x * U36)/\k<=n + 38/\Below w.heap.size w w':=by
 have B0:=ae w (.cells #[.slice none 0 0] 32);have S0:=cM w (.slice none 0 0) 32;have h:=h.keep B0;go_enter Tryz.func46,Tryz.ntmps46;go_wp2_with fail;refine ql.mono ?_
 rintro e w1 ⟨a,k,d,rfl,hO,hk,hB⟩;have h:=h.keep hB;have S0:=S0.keep hB;have B0:=ai B0 hB;clear hB;go_wp2_with fail;refine(nMul h hO.a hn (by omega)).mono ?_
 rintro e w2 ⟨a',k',d',rfl,hO',hk',hB⟩;have S1:=S0.keep hB;have c1:=S1.cell;have f1:=S1.free;have S2:=S1.put (.slice a' k' d');have hO1:=hO'.put S1 eQ (.slice a' k' d');have HB:=eK B0 hB (g:=w.heap.size) (Nat.le_refl _) (.slice a' k' d');clear h hO hO' hB S0 S1 B0;go_wp2;refine bodyPost_ret (eU rfl rfl S2) rfl ?_
 exact⟨a',k',d',rfl,hO1,by omega,HB⟩
theorem dOf(h0:0<=x)(h1:x < 18446744073709551616) :
  Calls Tryz.prog 18 #[.int .u64 x] w fun e w'=>∃ a k d,e=.returned (.agg #[.slice a k d])/\bQ w' a k d (x * U36)/\k<=39/\Below w.heap.size w w':=by
 have B0:=ae w (.cells #[.slice none 0 0] 32);have S0:=cM w (.slice none 0 0) 32;go_enter Tryz.func18,Tryz.ntmps18;go_wp2_with fail;refine(nOf h0 h1).mono ?_
 rintro e w1 ⟨a,k,d,rfl,hO,hk,hB⟩;have S0:=S0.keep hB;have B0:=ai B0 hB;clear hB;go_wp2_with fail;refine(dOfNat hO.a (by omega)).mono ?_
 rintro e w2 ⟨a',k',d',rfl,hO',hk',hB⟩;have S1:=S0.keep hB;have c1:=S1.cell;have f1:=S1.free;have S2:=S1.put (.slice a' k' d');have hO1:=hO'.put S1 eQ (.slice a' k' d');have HB:=eK B0 hB (g:=w.heap.size) (Nat.le_refl _) (.slice a' k' d');clear hO hO' hB S0 S1 B0;go_wp2;refine bodyPost_ret (eU rfl rfl S2) rfl ?_
 exact⟨a',k',d',rfl,hO1,by omega,HB⟩
theorem dTimes(h:aN w ao n c x)(hn:n<=1099511627776)(h0:0<=y)(h1:y < 18446744073709551616) :
  Calls Tryz.prog 31 #[.agg #[.slice ao n c],.int .u64 y] w fun e w'=>∃ a k d,e=.returned (.agg #[.slice a k d])/\bQ w' a k d (x * y)/\k<=n + 1/\Below w.heap.size w w':=by
 have B0:=kM w (.cells #[.slice ao n c] 32) (.cells #[.slice none 0 0] 32);have S0:=gW w (.cells #[.slice ao n c] 32) (.slice none 0 0) 32;have SP:=(cM w (.slice ao n c) 32).alloc (.cells #[.slice none 0 0] 32);have h:=h.keep B0;go_enter Tryz.func31,Tryz.ntmps31;go_wp2_with fail
 go_region_with (first
  | (go_at_call 25; refine(nOf h0 h1).mono ?_; rintro e w1 ⟨a,k,d,rfl,hO,hk,hB⟩; have S0:=S0.drew.keep hB; have SP:=SP.drew.keep hB; have cP:=SP.cell; have B0:=ai B0.drew hB; have h:=h.drew.keep hB; clear hB)
  | (go_at_call 24; refine(nMul h hO.a hn (by omega)).mono ?_; rintro e w2 ⟨a',k',d',rfl,hO',hk',hB⟩; have S1:=S0.keep hB; have c1:=S1.cell; have f1:=S1.free; have S2:=S1.put (.slice a' k' d'); have hO1:=hO'.put S1 eQ (.slice a' k' d'); have HB:=eK B0 hB (g:=w.heap.size + 1) (by omega) (.slice a' k' d'); clear h hO hO' hB S0 S1 B0 cP SP))
 all_goals go_wp2
 all_goals refine bodyPost_ret (eU rfl rfl S2) rfl ?_
 all_goals exact⟨a',k',d',rfl,hO1,by omega,HB⟩
theorem dSub(h:aN w ao n c x)(h':aN w ao' n' c' y)(hn:n<=1099511627776)(hn':n'<=1099511627776)(aa:y<=x) :
  Calls Tryz.prog 39 #[.agg #[.slice ao n c],.agg #[.slice ao' n' c']] w fun e w'=>∃ a k d,e=.returned (.tuple #[.agg #[.slice a k d],.int .i64 0])/\bQ w' a k d (x - y)/\k<=n + n'/\Below w.heap.size w w':=by
 have B0:=fJ w (.cells #[.slice ao n c] 32) (.cells #[.slice ao' n' c'] 32) (.cells #[.slice none 0 0] 32);have S0:=gT w (.cells #[.slice ao n c] 32) (.cells #[.slice ao' n' c'] 32) (.slice none 0 0) 32;have h:=h.keep B0
 have h':=h'.keep B0;go_enter Tryz.func39,Tryz.ntmps39;go_wp2_with fail;refine(nSub h h' hn hn' aa).mono ?_
 rintro e w1 ⟨a,k,d,rfl,hO,hk,hB⟩;have S1:=S0.keep hB;have c1:=S1.cell;have f1:=S1.free;have S2:=S1.put (.slice a k d);have hO1:=hO.put S1 eQ (.slice a k d);have HB:=eK B0 hB (g:=w.heap.size + 1 + 1) (by omega) (.slice a k d);clear h h' hO hB S0 S1 B0 aa;go_wp2;refine bodyPost_ret (ik rfl rfl rfl S2) rfl ?_
 exact⟨a,k,d,rfl,hO1,hk,HB⟩
theorem dSubLt(h:aN w ao n c x)(h':aN w ao' n' c' y)(hn:n<=1099511627776)(hn':n'<=1099511627776)(aa:x < y) :
  Calls Tryz.prog 39 #[.agg #[.slice ao n c],.agg #[.slice ao' n' c']] w fun e w'=>e=.returned (.tuple #[.agg #[.slice none 0 0],.int .i64 20])/\Below w.heap.size w w':=by
 have B0:=fJ w (.cells #[.slice ao n c] 32) (.cells #[.slice ao' n' c'] 32) (.cells #[.slice none 0 0] 32);have S0:=gT w (.cells #[.slice ao n c] 32) (.cells #[.slice ao' n' c'] 32) (.slice none 0 0) 32;have h:=h.keep B0
 have h':=h'.keep B0;go_enter Tryz.func39,Tryz.ntmps39;go_wp2_with fail;refine(nSubLt h h' hn hn' aa).mono ?_
 rintro e w1 ⟨rfl,hB⟩;have S1:=S0.keep hB;have c1:=S1.cell;have f1:=S1.free;have S2:=S1.put (.slice none 0 0);have HB:=eK B0 hB (g:=w.heap.size + 1 + 1) (by omega) (.slice none 0 0);clear h h' hB S0 S1 B0 aa;go_wp2;refine bodyPost_ret (ik rfl rfl rfl S2) rfl ?_
 exact⟨rfl,HB⟩
theorem dTrunc(h:aN w ao n c x)(hn:n<=1099511627776) :
  Calls Tryz.prog 37 #[.agg #[.slice ao n c]] w fun e w'=>∃ a k d a' k' d',e=.returned (.tuple #[.slice a k d,.agg #[.slice a' k' d']])/\bQ w' a k d (x / U36)/\bQ w' a' k' d' (x % U36)/\k<=n/\k'<=n + 38/\Below w.heap.size w w':=by
 have B0:=kM w (.cells #[.slice ao n c] 32) (.cells #[.slice none 0 0] 32);have S0:=gW w (.cells #[.slice ao n c] 32) (.slice none 0 0) 32;have SP:=(cM w (.slice ao n c) 32).alloc (.cells #[.slice none 0 0] 32);have h:=h.keep B0;go_enter Tryz.func37,Tryz.ntmps37;go_wp2_with fail
 go_region_with (first
  | (go_at_call 71; refine ql.mono ?_; rintro e w1 ⟨a,k,d,rfl,hO,hk,hB⟩; have S0:=S0.drew.keep hB; have SP:=SP.drew.keep hB; have cP:=SP.cell; have B0:=ai B0.drew hB; have h:=h.drew.keep hB; clear hB)
  | (go_at_call 70; refine(nDiv h hO.a hn (by omega) (by decide)).mono ?_; rintro e w2 ⟨a1,k1,d1,a2,k2,d2,rfl,hO1,hO2,hk1,hk2,hB⟩; have S1:=S0.keep hB; have c1:=S1.cell; have f1:=S1.free; have S2:=S1.put (.slice a2 k2 d2); have hO1:=hO1.put S1 eQ (.slice a2 k2 d2); have hO2:=hO2.put S1 eQ (.slice a2 k2 d2); have HB:=eK B0 hB (g:=w.heap.size + 1) (by omega) (.slice a2 k2 d2); clear h hO hB S0 S1 B0 cP SP))
 all_goals go_wp2
 all_goals refine bodyPost_ret (vm rfl rfl rfl S2) rfl ?_
 all_goals exact⟨a1,k1,d1,a2,k2,d2,rfl,hO1,hO2,hk1,by omega,HB⟩
end
end
end Go.Proofs.YthfepflplbahkaaGreatDoor
