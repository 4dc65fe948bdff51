/- Several texts, joined: LgA. -/
import Derived.Test.YtlbndpkdkdgggaaGreatDoorJrf
import Derived.Test.YtlbndpkdkdgggaaGreatDoorJrg
set_option maxRecDepth 100000
set_option maxHeartbeats 8000000
namespace Go.Proofs.YtlbndpkdkdgggaaGreatDoor
namespace Lg
open Go.RowKit Lim Pg
def nu:Value->Bool
 | .int .u64 _=>false
 | _=>true
section
variable {w w':World} {g:Nat} {cs:List Value} {t:TypeId}
theorem cell_cg (X:Blk w g cs t) (hn:cs.all nu=true) (C:Chg (· = g) w w') {b o:Nat} {x:Int} (h:w.cell? ⟨b,o,none⟩=some (.int .u64 x)):w'.cell? ⟨b,o,none⟩=some (.int .u64 x):=by
 by_cases e:b=g
 ·subst e
  have hq:=X.blk
  simp only [World.cell?,hq] at h
  have hm:Value.int .u64 x∈cs:=by
   have:cs[o]? = some (.int .u64 x):=by simpa using h
   exact List.mem_of_getElem? this
  have:=List.all_eq_true.1 hn _ hm
  exact absurd this (by simp [nu])
 ·rw [World.cell?_of_block (w:=w) (C.same b (cell_lt h) e)]; exact h
variable {a b:Option Addr} {n c m d:Nat}
theorem NatA.cg {x:Int} (h:NatA w a n c x) (X:Blk w g cs t) (C:Chg (· = g) w w') (hn:cs.all nu=true):NatA w' a n c x:=by
 obtain ⟨b,o,l,h1,h2,h3,h4,h5⟩:=h.ex
 exact ⟨b,o,l,h1,h2,h3,⟨h4.loc,fun i hi=>cell_cg X hn C (h4.cell i hi)⟩,h5⟩
theorem NatO.cg {x:Int} (h:NatO w a n c x) (X:Blk w g cs t) (C:Chg (· = g) w w') (hn:cs.all nu=true):NatO w' a n c x:=by
 obtain ⟨b,o,l,h1,h2,h3,h4⟩:=h.ex
 exact ⟨b,o,l,h1,h2,h3,⟨h4.loc,fun i hi=>cell_cg X hn C (h4.cell i hi)⟩⟩
end
structure VQ (w:World) (a:Option Addr) (n c:Nat) (b:Option Addr) (m d:Nat) (r:Rat) (B:Nat):Prop where
 ex:∃ p q:Int,QV w a n c b m d p q B/\r=(p:Rat) / (q:Rat)
structure RQ (w:World) (a:Option Addr) (n c:Nat) (b:Option Addr) (m d:Nat) (r:Rat):Prop where
 ex:∃ (p q:Int) (B:Nat),QR w a n c b m d p q B/\r=(p:Rat) / (q:Rat)
theorem len_o {w:World} {ao:Option Addr} {n c m:Nat} {x:Int} (h:NatO w ao n c x) (hx:x < 2 ^ (64 * m)):n<=m:=by
 obtain ⟨b,o,l,h1,h2,h3,h4⟩:=h.ex
 rcases Nat.lt_or_ge m n with e | e
 ·have e1:=val_ge_of_nlen h3.1 (by rw [h3.2.1]; omega)
  have e2:=pow_mono (show m<=nlen l - 1 by rw [h3.2.1]; omega)
  rw [h3.2.2] at e1
  rw [show (2:Int) ^ (64 * m)=(18446744073709551616:Int) ^ m by rw [Int.pow_mul]; rfl] at hx
  omega
 ·exact e
section
variable {w w':World} {a b:Option Addr} {n c m d B:Nat} {r:Rat}
theorem VQ.keep (h:VQ w a n c b m d r B) (hb:Below w.heap.size w w'):VQ w' a n c b m d r B:=by
 obtain ⟨p,q,h1,h2⟩:=h.ex; exact ⟨p,q,h1.keep hb,h2⟩
theorem VQ.drew (h:VQ w a n c b m d r B):VQ w.drew a n c b m d r B:=by
 obtain ⟨p,q,h1,h2⟩:=h.ex; exact ⟨p,q,h1.drew,h2⟩
theorem VQ.cg {g:Nat} {cs:List Value} {t:TypeId} (h:VQ w a n c b m d r B) (X:Blk w g cs t) (C:Chg (· = g) w w') (hn:cs.all nu=true):VQ w' a n c b m d r B:=by
 obtain ⟨p,q,h1,h2⟩:=h.ex
 obtain ⟨x,y,g1,g2,g3⟩:=h1.ex
 exact ⟨p,q,⟨⟨x,y,NatA.cg g1 X C hn,NatA.cg g2 X C hn,g3⟩,h1.q0,h1.p0,h1.hn,h1.hm⟩,h2⟩
theorem RQ.keep (h:RQ w a n c b m d r) (hb:Below w.heap.size w w'):RQ w' a n c b m d r:=by
 obtain ⟨p,q,B,h1,h2⟩:=h.ex; exact ⟨p,q,B,h1.keep hb,h2⟩
theorem RQ.drew (h:RQ w a n c b m d r):RQ w.drew a n c b m d r:=by
 obtain ⟨p,q,B,h1,h2⟩:=h.ex; exact ⟨p,q,B,h1.drew,h2⟩
theorem RQ.cg {g:Nat} {cs:List Value} {t:TypeId} (h:RQ w a n c b m d r) (X:Blk w g cs t) (C:Chg (· = g) w w') (hn:cs.all nu=true):RQ w' a n c b m d r:=by
 obtain ⟨p,q,B,h1,h2⟩:=h.ex
 obtain ⟨x,y,g1,g2,g3⟩:=h1.ex
 exact ⟨p,q,B,⟨⟨x,y,NatO.cg g1 X C hn,NatO.cg g2 X C hn,g3⟩,h1.q0,h1.p0,h1.hn,h1.hm⟩,h2⟩
theorem RQ.nn (h:RQ w a n c b m d r):0<=r:=by
 obtain ⟨p,q,B,h1,h2⟩:=h.ex; rw [h2]; exact fr_nn h1.p0 h1.q0
theorem RQ.is {s:Rat} (h:RQ w a n c b m d r) (e:r=s):RQ w a n c b m d s:=e▸h
theorem red_num {N D p q:Int} (R:Red N D p q) (hq:0 < q) (e:r=(p:Rat) / (q:Rat)):N=r.num/\D=r.den:=by
 have h1:=R.d0
 have h2:=R.n0
 have e2:r=(N:Rat) / (D:Rat):=by rw [e]; exact (eq_fr hq h1).2 R.eq.symm
 obtain ⟨k,hk,k1,k2⟩:=den_dvd h1 e2
 have hc:=R.co
 have hg:k.natAbs ∣ Int.gcd N D:=Nat.dvd_gcd (Int.natAbs_dvd_natAbs.2 ⟨r.num,by rw [k2]; exact Int.mul_comm _ _⟩) (Int.natAbs_dvd_natAbs.2 ⟨r.den,by rw [k1]; exact Int.mul_comm _ _⟩)
 rw [hc] at hg
 have:k.natAbs=1:=Nat.dvd_one.1 hg
 have hk1:k=1:=by omega
 rw [hk1,Int.mul_one] at k1 k2
 exact ⟨k2,k1⟩
theorem RQ.v (h:RQ w a n c b m d r) (hf:Ft r (64 * B)):VQ w a n c b m d r B:=by
 obtain ⟨p,q,B',h1,h2⟩:=h.ex
 obtain ⟨N,D,g1,g2,R⟩:=h1.ex
 obtain ⟨e1,e2⟩:=red_num R h1.q0 h2
 have v:=h1.v
 exact ⟨p,q,⟨v.ex,v.q0,v.p0,len_o g1 (by rw [e1]; exact hf.1),len_o g2 (by rw [e2]; exact hf.2)⟩,h2⟩
theorem RQ.qr (h:RQ w a n c b m d r) (hf:Ft r (64 * B)):∃ p q:Int,QR w a n c b m d p q B/\r=(p:Rat) / (q:Rat):=by
 obtain ⟨p,q,B',h1,h2⟩:=h.ex
 obtain ⟨N,D,g1,g2,R⟩:=h1.ex
 obtain ⟨e1,e2⟩:=red_num R h1.q0 h2
 exact ⟨p,q,⟨⟨N,D,g1,g2,R⟩,h1.q0,h1.p0,len_o g1 (by rw [e1]; exact hf.1),len_o g2 (by rw [e2]; exact hf.2)⟩,h2⟩
end
def sgr (r s:Rat):Int:=if r < s then -1 else if s < r then 1 else 0
theorem lt_fr {a b c d:Int} (hb:0 < b) (hd:0 < d):(a:Rat)/(b:Rat) < (c:Rat)/(d:Rat)<->a*d < c*b:=by
 rw [<- Rat.not_le,le_fr hd hb]; omega
theorem sgn_fr {a b c d:Int} (hb:0 < b) (hd:0 < d):sgn (a * d) (c * b)=sgr ((a:Rat)/(b:Rat)) ((c:Rat)/(d:Rat)):=by
 unfold sgr
 simp only [lt_fr hb hd,lt_fr hd hb]
 unfold sgn
 repeat' split<;>omega
theorem pAdd {w:World} {B:Nat} {a0 b0:Option Addr} {n0 c0 m0 d0:Nat} {a1 b1:Option Addr} {n1 c1 m1 d1:Nat} {r0 r1:Rat} (h0:VQ w a0 n0 c0 b0 m0 d0 r0 B) (h1:VQ w a1 n1 c1 b1 m1 d1 r1 B) (hb:B<=10000000) :
  Calls Tryz.prog 52 #[.agg #[.slice a0 n0 c0,.slice b0 m0 d0],.agg #[.slice a1 n1 c1,.slice b1 m1 d1]] w fun e w'=>∃ a k d a' k' d',e=.returned (.agg #[.slice a k d,.slice a' k' d'])/\RQ w' a k d a' k' d' (r0 + r1)/\Below w.heap.size w w':=by
 obtain ⟨p0,q0,x0,e0⟩:=h0.ex
 obtain ⟨p1,q1,x1,e1⟩:=h1.ex
 refine (cAdd x0 x1 (by omega)).mono ?_
 rintro e w1 ⟨a,k,d,a',k',d',rfl,Q,hB⟩
 exact ⟨a,k,d,a',k',d',rfl,⟨_,_,_,Q,by rw [e0,e1,fr_add x0.q0 x1.q0]⟩,hB⟩
theorem pMul {w:World} {B:Nat} {a0 b0:Option Addr} {n0 c0 m0 d0:Nat} {a1 b1:Option Addr} {n1 c1 m1 d1:Nat} {r0 r1:Rat} (h0:VQ w a0 n0 c0 b0 m0 d0 r0 B) (h1:VQ w a1 n1 c1 b1 m1 d1 r1 B) (hb:B<=10000000) :
  Calls Tryz.prog 39 #[.agg #[.slice a0 n0 c0,.slice b0 m0 d0],.agg #[.slice a1 n1 c1,.slice b1 m1 d1]] w fun e w'=>∃ a k d a' k' d',e=.returned (.agg #[.slice a k d,.slice a' k' d'])/\RQ w' a k d a' k' d' (r0 * r1)/\Below w.heap.size w w':=by
 obtain ⟨p0,q0,x0,e0⟩:=h0.ex
 obtain ⟨p1,q1,x1,e1⟩:=h1.ex
 refine (cMul x0 x1 (by omega)).mono ?_
 rintro e w1 ⟨a,k,d,a',k',d',rfl,Q,hB⟩
 exact ⟨a,k,d,a',k',d',rfl,⟨_,_,_,Q,by rw [e0,e1,fr_mul x0.q0 x1.q0]⟩,hB⟩
theorem num_ne {p q:Int} {r:Rat} (e:r=(p:Rat) / (q:Rat)) (h:r≠0):p≠0:=by
 intro k; apply h; rw [e,k,show ((0:Int):Rat)=0 by decide +kernel,Rat.div_def,Rat.zero_mul]
theorem num_z {p q:Int} {r:Rat} (hq:0 < q) (e:r=(p:Rat) / (q:Rat)) (h:r=0):p=0:=by
 rw [h,show (0:Rat)=((0:Int):Rat) / ((1:Int):Rat) by decide +kernel,eq_fr (by decide) hq] at e
 omega
theorem pQuo {w:World} {B:Nat} {a0 b0:Option Addr} {n0 c0 m0 d0:Nat} {a1 b1:Option Addr} {n1 c1 m1 d1:Nat} {r0 r1:Rat} (h0:VQ w a0 n0 c0 b0 m0 d0 r0 B) (h1:VQ w a1 n1 c1 b1 m1 d1 r1 B) (hb:B<=10000000) (hne:r1≠0) :
  Calls Tryz.prog 35 #[.agg #[.slice a0 n0 c0,.slice b0 m0 d0],.agg #[.slice a1 n1 c1,.slice b1 m1 d1]] w fun e w'=>∃ a k d a' k' d',e=.returned (.tuple #[.agg #[.slice a k d,.slice a' k' d'],.int .i64 0])/\RQ w' a k d a' k' d' (r0 / r1)/\Below w.heap.size w w':=by
 obtain ⟨p0,q0,x0,e0⟩:=h0.ex
 obtain ⟨p1,q1,x1,e1⟩:=h1.ex
 refine (cQuo x0 x1 (by omega) (num_ne e1 hne)).mono ?_
 rintro e w1 ⟨a,k,d,a',k',d',rfl,Q,hB⟩
 exact ⟨a,k,d,a',k',d',rfl,⟨_,_,_,Q,by rw [e0,e1,fr_div x0.q0 x1.q0 (by have:=x1.p0; have:=num_ne e1 hne; omega)]⟩,hB⟩
theorem pQuoZ {w:World} {B:Nat} {v u1 u2:Value} {a1 b1:Option Addr} {n1 c1 m1 d1:Nat} {r1:Rat} (hv:v=.agg #[u1,u2]) (h1:VQ w a1 n1 c1 b1 m1 d1 r1 B) (hb:B<=10000000) (hz:r1=0) :
  Calls Tryz.prog 35 #[v,.agg #[.slice a1 n1 c1,.slice b1 m1 d1]] w fun e w'=>e=.returned (.tuple #[.agg #[.slice none 0 0,.slice none 0 0],.int .i64 30])/\Below w.heap.size w w':=by
 obtain ⟨p1,q1,x1,e1⟩:=h1.ex
 exact cQuoZ hv x1 (by omega) (num_z x1.q0 e1 hz)
theorem pCmp {w:World} {B:Nat} {a0 b0:Option Addr} {n0 c0 m0 d0:Nat} {a1 b1:Option Addr} {n1 c1 m1 d1:Nat} {r0 r1:Rat} (h0:VQ w a0 n0 c0 b0 m0 d0 r0 B) (h1:VQ w a1 n1 c1 b1 m1 d1 r1 B) (hb:B<=10000000) :
  Calls Tryz.prog 47 #[.agg #[.slice a0 n0 c0,.slice b0 m0 d0],.agg #[.slice a1 n1 c1,.slice b1 m1 d1]] w fun e w'=>e=.returned (.int .i64 (sgr r0 r1))/\Below w.heap.size w w':=by
 obtain ⟨p0,q0,x0,e0⟩:=h0.ex
 obtain ⟨p1,q1,x1,e1⟩:=h1.ex
 refine cCmp x0 x1 (by omega) _ ?_
 rw [e0,e1]
 exact sgn_fr x0.q0 x1.q0
theorem pSame {w:World} {B:Nat} {a0 b0:Option Addr} {n0 c0 m0 d0:Nat} {a1 b1:Option Addr} {n1 c1 m1 d1:Nat} {r0 r1:Rat} (h0:RQ w a0 n0 c0 b0 m0 d0 r0) (h1:RQ w a1 n1 c1 b1 m1 d1 r1) (f0:Ft r0 (64 * B)) (f1:Ft r1 (64 * B)) (hb:B<=10000000) :
  Calls Tryz.prog 16 #[.agg #[.slice a0 n0 c0,.slice b0 m0 d0],.agg #[.slice a1 n1 c1,.slice b1 m1 d1]] w fun e w'=>e=.returned (.bool (decide (r0=r1)))/\Below w.heap.size w w':=by
 obtain ⟨p0,q0,x0,e0⟩:=h0.qr f0
 obtain ⟨p1,q1,x1,e1⟩:=h1.qr f1
 refine cSame x0 x1 (by omega) _ ?_
 rw [decide_eq_decide,e0,e1]
 exact (eq_fr x0.q0 x1.q0).symm
theorem pOfNat {w:World} {ao:Option Addr} {n c:Nat} {x:Int} {B:Nat} (h:NatA w ao n c x) (hn:n<=B) (h1:39<=B) (hb:B<=10000000) :
  Calls Tryz.prog 37 #[.slice ao n c] w fun e w'=>∃ a k d a' k' d',e=.returned (.agg #[.slice a k d,.slice a' k' d'])/\RQ w' a k d a' k' d' ((x:Rat))/\Below w.heap.size w w':=by
 refine (cOfNat h hn (by omega) (by omega)).mono ?_
 rintro e w1 ⟨a,k,d,a',k',d',rfl,Q,hB⟩
 exact ⟨a,k,d,a',k',d',rfl,⟨_,_,_,Q,by rw [show ((1:Int):Rat)=1 by decide +kernel]; grind⟩,hB⟩
theorem pOfDec {w:World} {ao:Option Addr} {n c:Nat} {x:Int} {B:Nat} (h:NatA w ao n c x) (hn:n<=B) (h1:39<=B) (hb:B<=10000000) :
  Calls Tryz.prog 36 #[.agg #[.slice ao n c]] w fun e w'=>∃ a k d a' k' d',e=.returned (.agg #[.slice a k d,.slice a' k' d'])/\RQ w' a k d a' k' d' ((x:Rat) / (U36:Rat))/\Below w.heap.size w w':=by
 refine (cOfDec h hn h1 (by omega)).mono ?_
 rintro e w1 ⟨a,k,d,a',k',d',rfl,Q,hB⟩
 exact ⟨a,k,d,a',k',d',rfl,⟨_,_,_,Q,rfl⟩,hB⟩
theorem pOf {w:World} {ao ao':Option Addr} {n c n' c':Nat} {x y:Int} {B:Nat} (h:NatA w ao n c x) (h':NatA w ao' n' c' y) (hn:n<=B) (hn':n'<=B) (hb:B<=10000000) (hne:y≠0) :
  Calls Tryz.prog 41 #[.slice ao n c,.slice ao' n' c'] w fun e w'=>∃ a k d a' k' d',e=.returned (.tuple #[.agg #[.slice a k d,.slice a' k' d'],.int .i64 0])/\RQ w' a k d a' k' d' ((x:Rat) / (y:Rat))/\Below w.heap.size w w':=by
 have hy:0 < y:=by have:=h'.nonneg; omega
 refine (qOf h h' (by omega) (by omega) hne).mono ?_
 rintro e w1 ⟨a,k,d,a',k',d',rfl,O1,O2,hk,hk',hB⟩
 exact ⟨a,k,d,a',k',d',rfl,⟨_,_,B,⟨⟨_,_,O1,O2,red_of h.nonneg hy⟩,hy,h.nonneg,by omega,by omega⟩,rfl⟩,hB⟩
end Lg
end Go.Proofs.YtlbndpkdkdgggaaGreatDoor
