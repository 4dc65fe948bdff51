/- Several texts, joined: KnownD, KnownQ, RightQ, SmallQ, RatV. -/
import Derived.Test.YtlbndpkdkdgggaaGreatDoorJre
import Derived.Test.YtlbndpkdkdgggaaGreatDoorJna
import Derived.Test.YtlbndpkdkdgggaaGreatDoorJnb
set_option maxRecDepth 100000
set_option maxHeartbeats 8000000
namespace Go.Proofs.YtlbndpkdkdgggaaGreatDoor
section
open Go.RowKit Lim
end
section
open Go.RowKit Lim
end
section
open Go.RowKit Lim
theorem natO_pos {w:World} {ao:Option Addr} {n c:Nat} {x:Int} (h:NatO w ao n c x) (hx:x≠0):0 < n:=by
 obtain ⟨b,o,l,h1,h2,h3,h4⟩:=h.ex
 rcases Nat.eq_zero_or_pos n with e | e
 ·exfalso
  have:l=[]:=List.eq_nil_of_length_eq_zero (by omega)
  subst this
  exact hx (by rw [<- h3.2.2]; rfl)
 ·exact e
end
section
open Go.RowKit Lim
end
section
open Go.RowKit Lim
structure QV (w:World) (a:Option Addr) (n c:Nat) (b:Option Addr) (m d:Nat) (p q:Int) (B:Nat):Prop where
 ex:∃ x y,NatA w a n c x/\NatA w b m d y/\cn x y * q=p * cd y
 q0:0 < q
 p0:0<=p
 hn:n<=B
 hm:m<=B
structure QR (w:World) (a:Option Addr) (n c:Nat) (b:Option Addr) (m d:Nat) (p q:Int) (B:Nat):Prop where
 ex:∃ N D,NatO w a n c N/\NatO w b m d D/\Red N D p q
 q0:0 < q
 p0:0<=p
 hn:n<=B
 hm:m<=B
theorem cn_pos {N D:Int} (h:0 < D):cn N D=N:=by unfold cn; rw [if_neg (by omega)]
theorem cd_is {D:Int} (h:0 < D):cd D=D:=by unfold cd; rw [if_neg (by omega)]
section
variable {w w':World} {a b:Option Addr} {n c m d:Nat} {p q:Int} {B:Nat}
theorem QR.v (h:QR w a n c b m d p q B):QV w a n c b m d p q B:=by
 obtain ⟨N,D,h1,h2,R⟩:=h.ex
 exact ⟨⟨N,D,h1.a,h2.a,by rw [cn_pos R.d0,cd_is R.d0]; exact R.eq⟩,h.q0,h.p0,h.hn,h.hm⟩
theorem QV.keep (h:QV w a n c b m d p q B) (hb:Below w.heap.size w w'):QV w' a n c b m d p q B:=by
 obtain ⟨x,y,h1,h2,h3⟩:=h.ex
 exact ⟨⟨x,y,h1.keep hb,h2.keep hb,h3⟩,h.q0,h.p0,h.hn,h.hm⟩
theorem QR.keep (h:QR w a n c b m d p q B) (hb:Below w.heap.size w w'):QR w' a n c b m d p q B:=by
 obtain ⟨x,y,h1,h2,h3⟩:=h.ex
 exact ⟨⟨x,y,h1.keep hb,h2.keep hb,h3⟩,h.q0,h.p0,h.hn,h.hm⟩
theorem QV.drew (h:QV w a n c b m d p q B):QV w.drew a n c b m d p q B:=by
 obtain ⟨x,y,h1,h2,h3⟩:=h.ex
 exact ⟨⟨x,y,h1.drew,h2.drew,h3⟩,h.q0,h.p0,h.hn,h.hm⟩
theorem QR.drew (h:QR w a n c b m d p q B):QR w.drew a n c b m d p q B:=by
 obtain ⟨x,y,h1,h2,h3⟩:=h.ex
 exact ⟨⟨x,y,h1.drew,h2.drew,h3⟩,h.q0,h.p0,h.hn,h.hm⟩
theorem QR.eqv (h:QR w a n c b m d p q B) {p' q':Int} (hq:0 < q') (hp:0<=p') (e:p * q'=p' * q):QR w a n c b m d p' q' B:=by
 obtain ⟨N,D,h1,h2,R⟩:=h.ex
 exact ⟨⟨N,D,h1,h2,R.cross h.q0 e⟩,hq,hp,h.hn,h.hm⟩
theorem qv_nil:QV w none 0 0 none 0 0 0 1 B:=⟨⟨0,0,(natO_nil w).a,(natO_nil w).a,by decide⟩,by decide,by decide,Nat.zero_le _,Nat.zero_le _⟩
end
theorem cross_le {a b p q a' b' p' q':Int} (h:a * q=p * b) (h':a' * q'=p' * b') (hb:0 < b) (hq:0 < q) (hb':0 < b') (hq':0 < q'):a' * b<=a * b'<->p' * q<=p * q':=by
 have e1:a' * b * (q * q')=p' * q * (b * b'):=by
  have:a' * b * (q * q')=a' * q' * (b * q):=by grind
  rw [this,h']; grind
 have e2:a * b' * (q * q')=p * q' * (b * b'):=by
  have:a * b' * (q * q')=a * q * (b' * q'):=by grind
  rw [this,h]; grind
 have g1:0 < q * q':=Int.mul_pos hq hq'
 have g2:0 < b * b':=Int.mul_pos hb hb'
 constructor
 ·intro hh
  have:=Int.mul_le_mul_of_nonneg_right hh (Int.le_of_lt g1)
  rw [e1,e2] at this
  exact Int.le_of_mul_le_mul_right this g2
 ·intro hh
  have:=Int.mul_le_mul_of_nonneg_right hh (Int.le_of_lt g2)
  rw [<- e1,<- e2] at this
  exact Int.le_of_mul_le_mul_right this g1
theorem cross_sgn {a b p q a' b' p' q':Int} (h:a * q=p * b) (h':a' * q'=p' * b') (hb:0 < b) (hq:0 < q) (hb':0 < b') (hq':0 < q'):sgn (a * b') (a' * b)=sgn (p * q') (p' * q):=by
 have i1:=cross_le h h' hb hq hb' hq'
 have i2:=cross_le h' h hb' hq' hb hq
 rcases Int.lt_trichotomy (p * q') (p' * q) with c | c | c
 ·rw [sgn_lt c]
  refine sgn_lt (Int.not_le.1 fun h => ?_)
  have:=i1.1 h
  omega
 ·rw [sgn_eq c]
  exact sgn_eq (Int.le_antisymm (i2.2 (by omega)) (i1.2 (by omega)))
 ·rw [sgn_gt c]
  refine sgn_gt (Int.not_le.1 fun h => ?_)
  have:=i2.1 h
  omega
theorem rsum_two (x0 y0 x1 y1:Int):rsum [(x0,y0),(x1,y1)]=(cn x0 y0 * cd y1 + cn x1 y1 * cd y0,cd y0 * cd y1):=by
 simp [rsum,rstep]
theorem pairR {w:World} {a:Option Addr} {k d:Nat} {a':Option Addr} {k' d':Nat} {N D p q:Int} {B:Nat} (h1:NatO w a k d N) (h2:NatO w a' k' d' D) (R:Red N D p q) (hq:0 < q) (hp:0<=p) (hk:k<=B) (hk':k'<=B):QR w a k d a' k' d' p q B:=⟨⟨N,D,h1,h2,R⟩,hq,hp,hk,hk'⟩
theorem cAdd {w:World} {B:Nat} {a0 b0:Option Addr} {n0 c0 m0 d0:Nat} {p0 q0:Int} {a1 b1:Option Addr} {n1 c1 m1 d1:Nat} {p1 q1:Int} (h0:QV w a0 n0 c0 b0 m0 d0 p0 q0 B) (h1:QV w a1 n1 c1 b1 m1 d1 p1 q1 B) (hb:B<=1000000000) :
  Calls Tryz.prog 52 #[.agg #[.slice a0 n0 c0,.slice b0 m0 d0],.agg #[.slice a1 n1 c1,.slice b1 m1 d1]] w fun e w'=>∃ a k d a' k' d',e=.returned (.agg #[.slice a k d,.slice a' k' d'])/\QR w' a k d a' k' d' (p0 * q1 + p1 * q0) (q0 * q1) (8 * B + 16)/\Below w.heap.size w w':=by
 obtain ⟨x0,y0,g0,k0,E0⟩:=h0.ex
 obtain ⟨x1,y1,g1,k1,E1⟩:=h1.ex
 have u0:=cd_pos k0.nonneg
 have u1:=cd_pos k1.nonneg
 have z0:=h0.hn
 have z1:=h0.hm
 have z2:=h1.hn
 have z3:=h1.hm
 refine (qAdd g0 k0 z0 z1 g1 k1 z2 z3 hb).mono ?_
 rintro e w1 ⟨a,k,d,a',k',d',N,D,rfl,O1,O2,R,hk,hk',hB⟩
 rw [rsum_two] at R
 refine ⟨a,k,d,a',k',d',rfl,pairR O1 O2 (R.cross (Int.mul_pos u0 u1) ?_) (Int.mul_pos h0.q0 h1.q0) (Int.add_nonneg (Int.mul_nonneg h0.p0 (Int.le_of_lt h1.q0)) (Int.mul_nonneg h1.p0 (Int.le_of_lt h0.q0))) hk (by omega),hB⟩
 show (cn x0 y0 * cd y1 + cn x1 y1 * cd y0) * (q0 * q1)=(p0 * q1 + p1 * q0) * (cd y0 * cd y1)
 have s1:(cn x0 y0 * cd y1 + cn x1 y1 * cd y0) * (q0 * q1)=cn x0 y0 * q0 * (cd y1 * q1) + cn x1 y1 * q1 * (cd y0 * q0):=by grind
 rw [s1,E0,E1]
 grind
theorem cMul {w:World} {B:Nat} {a0 b0:Option Addr} {n0 c0 m0 d0:Nat} {p0 q0:Int} {a1 b1:Option Addr} {n1 c1 m1 d1:Nat} {p1 q1:Int} (h0:QV w a0 n0 c0 b0 m0 d0 p0 q0 B) (h1:QV w a1 n1 c1 b1 m1 d1 p1 q1 B) (hb:B<=1000000000) :
  Calls Tryz.prog 39 #[.agg #[.slice a0 n0 c0,.slice b0 m0 d0],.agg #[.slice a1 n1 c1,.slice b1 m1 d1]] w fun e w'=>∃ a k d a' k' d',e=.returned (.agg #[.slice a k d,.slice a' k' d'])/\QR w' a k d a' k' d' (p0 * p1) (q0 * q1) (2 * B + 2)/\Below w.heap.size w w':=by
 obtain ⟨x0,y0,g0,k0,E0⟩:=h0.ex
 obtain ⟨x1,y1,g1,k1,E1⟩:=h1.ex
 have u0:=cd_pos k0.nonneg
 have u1:=cd_pos k1.nonneg
 have z0:=h0.hn
 have z1:=h0.hm
 have z2:=h1.hn
 have z3:=h1.hm
 refine (qMul g0 k0 (by omega) (by omega) g1 k1 (by omega) (by omega)).mono ?_
 rintro e w1 ⟨a,k,d,a',k',d',rfl,O1,O2,hk,hk',hB⟩
 have R:=red_of (Int.mul_nonneg (cn_nonneg y0 g0.nonneg) (cn_nonneg y1 g1.nonneg)) (Int.mul_pos u0 u1)
 refine ⟨a,k,d,a',k',d',rfl,pairR O1 O2 (Red.cross R (Int.mul_pos u0 u1) ?_) (Int.mul_pos h0.q0 h1.q0) (Int.mul_nonneg h0.p0 h1.p0) (by omega) (by omega),hB⟩
 have s1:cn x0 y0 * cn x1 y1 * (q0 * q1)=cn x0 y0 * q0 * (cn x1 y1 * q1):=by grind
 rw [s1,E0,E1]
 grind
theorem qv_zero {x y p q:Int} (E:cn x y * q=p * cd y) (hq:0 < q):(x=0\/y=0)<->p=0:=by
 have u:=cd_ne y
 constructor
 ·intro h
  have:cn x y=0:=by unfold cn; rcases h with h | h<;>simp [h]
  rw [this,Int.zero_mul] at E
  rcases Int.mul_eq_zero.1 E.symm with h | h
  ·exact h
  ·exact absurd h u
 ·intro h
  rw [h,Int.zero_mul] at E
  rcases Int.mul_eq_zero.1 E with h | h
  ·unfold cn at h
   split at h
   ·exact .inr (by assumption)
   ·exact .inl h
  ·omega
theorem cQuoZ {w:World} {B:Nat} {v u1 u2:Value} {a1 b1:Option Addr} {n1 c1 m1 d1:Nat} {p1 q1:Int} (hv:v=.agg #[u1,u2]) (h1:QV w a1 n1 c1 b1 m1 d1 p1 q1 B) (hb:B<=1000000000) (hz:p1=0) :
  Calls Tryz.prog 35 #[v,.agg #[.slice a1 n1 c1,.slice b1 m1 d1]] w fun e w'=>e=.returned (.tuple #[.agg #[.slice none 0 0,.slice none 0 0],.int .i64 30])/\Below w.heap.size w w':=by
 obtain ⟨x1,y1,g1,k1,E1⟩:=h1.ex
 have z2:=h1.hn
 have z3:=h1.hm
 exact qQuoZ hv g1 k1 (by omega) (by omega) ((qv_zero E1 h1.q0).2 hz)
theorem cQuo {w:World} {B:Nat} {a0 b0:Option Addr} {n0 c0 m0 d0:Nat} {p0 q0:Int} {a1 b1:Option Addr} {n1 c1 m1 d1:Nat} {p1 q1:Int} (h0:QV w a0 n0 c0 b0 m0 d0 p0 q0 B) (h1:QV w a1 n1 c1 b1 m1 d1 p1 q1 B) (hb:B<=1000000000) (hne:p1≠0) :
  Calls Tryz.prog 35 #[.agg #[.slice a0 n0 c0,.slice b0 m0 d0],.agg #[.slice a1 n1 c1,.slice b1 m1 d1]] w fun e w'=>∃ a k d a' k' d',e=.returned (.tuple #[.agg #[.slice a k d,.slice a' k' d'],.int .i64 0])/\QR w' a k d a' k' d' (p0 * q1) (q0 * p1) (2 * B + 2)/\Below w.heap.size w w':=by
 obtain ⟨x0,y0,g0,k0,E0⟩:=h0.ex
 obtain ⟨x1,y1,g1,k1,E1⟩:=h1.ex
 have u0:=cd_pos k0.nonneg
 have u1:=cd_pos k1.nonneg
 have z0:=h0.hn
 have z1:=h0.hm
 have z2:=h1.hn
 have z3:=h1.hm
 have hn:=mt (qv_zero E1 h1.q0).1 hne
 have hx:x1≠0:=fun e=>hn (.inl e)
 have hy:y1≠0:=fun e=>hn (.inr e)
 have x1p:0 < x1:=by have:=g1.nonneg; omega
 have y1p:0 < y1:=by have:=k1.nonneg; omega
 refine (qQuo g0 k0 (by omega) (by omega) g1 k1 (by omega) (by omega) hx hy).mono ?_
 rintro e w1 ⟨a,k,d,a',k',d',rfl,O1,O2,hk,hk',hB⟩
 have u2:0 < cd x1:=cd_pos g1.nonneg
 have R:=red_of (Int.mul_nonneg (cn_nonneg y0 g0.nonneg) (cn_nonneg x1 k1.nonneg)) (Int.mul_pos u0 u2)
 have p1p:0 < p1:=by have:=h1.p0; omega
 refine ⟨a,k,d,a',k',d',rfl,pairR O1 O2 (Red.cross R (Int.mul_pos u0 u2) ?_) (Int.mul_pos h0.q0 p1p) (Int.mul_nonneg h0.p0 (Int.le_of_lt h1.q0)) (by omega) (by omega),hB⟩
 rw [cn_pos y1p,cd_is y1p] at E1
 rw [cn_pos x1p,cd_is x1p]
 have s1:cn x0 y0 * y1 * (q0 * p1)=cn x0 y0 * q0 * (p1 * y1):=by grind
 rw [s1,E0,<- E1]
 grind
theorem cCmp {w:World} {B:Nat} {a0 b0:Option Addr} {n0 c0 m0 d0:Nat} {p0 q0:Int} {a1 b1:Option Addr} {n1 c1 m1 d1:Nat} {p1 q1:Int} (h0:QV w a0 n0 c0 b0 m0 d0 p0 q0 B) (h1:QV w a1 n1 c1 b1 m1 d1 p1 q1 B) (hb:B<=1000000000) (r:Int) (hr:sgn (p0 * q1) (p1 * q0)=r) :
  Calls Tryz.prog 47 #[.agg #[.slice a0 n0 c0,.slice b0 m0 d0],.agg #[.slice a1 n1 c1,.slice b1 m1 d1]] w fun e w'=>e=.returned (.int .i64 r)/\Below w.heap.size w w':=by
 obtain ⟨x0,y0,g0,k0,E0⟩:=h0.ex
 obtain ⟨x1,y1,g1,k1,E1⟩:=h1.ex
 have u0:=cd_pos k0.nonneg
 have u1:=cd_pos k1.nonneg
 have z0:=h0.hn
 have z1:=h0.hm
 have z2:=h1.hn
 have z3:=h1.hm
 have t:=qCmp g0 k0 (by omega) (by omega) g1 k1 (by omega) (by omega)
 rw [cross_sgn E0 E1 u0 h0.q0 u1 h1.q0,hr] at t
 exact t
theorem cOfNat {w:World} {B:Nat} {ao:Option Addr} {n c:Nat} {x:Int} (h:NatA w ao n c x) (hn:n<=B) (h1:1<=B) (hb:B<=1000000000) :
  Calls Tryz.prog 37 #[.slice ao n c] w fun e w'=>∃ a k d a' k' d',e=.returned (.agg #[.slice a k d,.slice a' k' d'])/\QR w' a k d a' k' d' x 1 B/\Below w.heap.size w w':=by
 refine (qOfNat h (by omega)).mono ?_
 rintro e w1 ⟨a,k,d,a',k',d',rfl,O1,O2,hk,hk',hB⟩
 exact ⟨a,k,d,a',k',d',rfl,pairR O1 O2 ⟨h.nonneg,by decide,by simp,rfl⟩ (by decide) h.nonneg (by omega) (by omega),hB⟩
theorem u36_pos:(0:Int) < U36:=by decide
theorem cOfDec {w:World} {B:Nat} {ao:Option Addr} {n c:Nat} {x:Int} (h:NatA w ao n c x) (hn:n<=B) (h1:39<=B) (hb:B<=1000000000) :
  Calls Tryz.prog 36 #[.agg #[.slice ao n c]] w fun e w'=>∃ a k d a' k' d',e=.returned (.agg #[.slice a k d,.slice a' k' d'])/\QR w' a k d a' k' d' x U36 B/\Below w.heap.size w w':=by
 refine (qOfDec h (by omega)).mono ?_
 rintro e w1 ⟨a,k,d,a',k',d',rfl,O1,O2,hk,hk',hB⟩
 exact ⟨a,k,d,a',k',d',rfl,pairR O1 O2 (red_of h.nonneg u36_pos) u36_pos h.nonneg (by omega) (by omega),hB⟩
theorem cSame {w:World} {B:Nat} {a0 b0:Option Addr} {n0 c0 m0 d0:Nat} {p0 q0:Int} {a1 b1:Option Addr} {n1 c1 m1 d1:Nat} {p1 q1:Int} (h0:QR w a0 n0 c0 b0 m0 d0 p0 q0 B) (h1:QR w a1 n1 c1 b1 m1 d1 p1 q1 B) (hb:B<=1000000000) (r:Bool) (hr:decide (p0 * q1=p1 * q0)=r) :
  Calls Tryz.prog 16 #[.agg #[.slice a0 n0 c0,.slice b0 m0 d0],.agg #[.slice a1 n1 c1,.slice b1 m1 d1]] w fun e w'=>e=.returned (.bool r)/\Below w.heap.size w w':=by
 obtain ⟨x0,y0,g0,k0,E0⟩:=h0.ex
 obtain ⟨x1,y1,g1,k1,E1⟩:=h1.ex
 have z0:=h0.hn
 have z1:=h0.hm
 have z2:=h1.hn
 have z3:=h1.hm
 have t:=qSame g0 k0 (by omega) (by omega) g1 k1 (by omega) (by omega)
 have i:(x0=x1/\y0=y1)<->p0 * q1=p1 * q0:=by
  constructor
  ·rintro ⟨rfl,rfl⟩
   have e0:=E0.eq
   have e1:=E1.eq
   have hd:=E0.d0
   refine Int.eq_of_mul_eq_mul_right (a:=y0) (by omega) ?_
   have s1:p0 * q1 * y0=p0 * y0 * q1:=by grind
   have s2:p1 * q0 * y0=p1 * y0 * q0:=by grind
   rw [s1,s2,<- e0,<- e1]
   grind
  ·intro e
   exact Red.unique E0 E1 h0.q0 h1.q0 e
 rw [decide_eq_decide.2 i,hr] at t
 exact t
theorem RatL.nonneg {w:World} {ao:Option Addr} {l:List (Int × Int)} {B:Nat} (h:RatL w ao l B):∀ v∈l,0<=v.1/\0<=v.2:=by
 intro v hv
 obtain ⟨i,hi,rfl⟩:=List.getElem_of_mem hv
 obtain ⟨b,o,a0,n0,c0,a1,n1,c1,e,h1,h2,h3,h4,h5,h6⟩:=h.get i hi
 exact ⟨h3.nonneg,h4.nonneg⟩
theorem rfold (l:List (Int × Int)):∀ s:Int × Int,l.foldl rstep s=(s.1 * (rsum l).2 + (rsum l).1 * s.2,s.2 * (rsum l).2):=by
 induction l with
 | nil=>intro s; simp [rsum]
 | cons v l ih =>
  intro s
  have e1:(v :: l).foldl rstep s=l.foldl rstep (rstep s v):=rfl
  have e2:rsum (v :: l)=l.foldl rstep (rstep (0,1) v):=rfl
  rw [e1,e2,ih,ih]
  simp only [rstep]
  refine Prod.ext ?_ ?_
  ·show _=_; grind
  ·show _=_; grind
theorem rsum_pos (l:List (Int × Int)) (h:∀ v∈l,0<=v.1/\0<=v.2):0 < (rsum l).2/\0<=(rsum l).1:=by
 induction l with
 | nil=>exact ⟨by decide,by decide⟩
 | cons v l ih =>
  obtain ⟨i1,i2⟩:=ih fun u hu=>h u (List.mem_cons_of_mem _ hu)
  obtain ⟨j1,j2⟩:=h v (List.mem_cons_self ..)
  have e:rsum (v :: l)=l.foldl rstep (rstep (0,1) v):=rfl
  rw [e,rfold]
  simp only [rstep]
  have c1:=cd_pos j2
  have c2:=cn_nonneg v.2 j1
  refine ⟨Int.mul_pos (by omega) i1,Int.add_nonneg (Int.mul_nonneg (by omega) (Int.le_of_lt i1)) (Int.mul_nonneg i2 (by omega))⟩
end
end Go.Proofs.YtlbndpkdkdgggaaGreatDoor
