/- Several texts, joined: Fore, Lehm, Shrink, GcdN, GcdV, Spoil, SmallN, Small, ToB, Groups, CopyN. -/
import Derived.Test.YtlbndpkdkdgggaaGreatDoorJna
import Derived.Deep.RegionWith
import Derived.BigQuiet
import Derived.Deep.RegionHeld3
import Derived.OpenShut
import Derived.Laws.AppendOwnNone
set_option maxRecDepth 100000
set_option maxHeartbeats 8000000
namespace Go.Proofs.YtlbndpkdkdgggaaGreatDoor
section
open Go.RowKit Lim
def sgO (odd:Bool):Int:=if odd then -1 else 1
structure Fore (x0 y0 x y px qx py qy:Int) (odd:Bool):Prop where
 y0':0<=y
 yx:y<=x
 px0:0<=px
 qx0:0<=qx
 py0:0<=py
 qy1:1<=qy
 e1:x * qy + y * qx=x0
 e2:x * py + y * px=y0
 det:px * qy - qx * py=sgO odd
 l1:py<=qy
 l2:px + py<=qx + qy
 l3:qx<=qy
 l4:px<=qy
 full:∀ X Y K a b:Int,X=x0 * K + a->Y=y0 * K + b->0<=a->a < K->0<=b->b < K->0<=sgO odd * (qy * Y - py * X)/\sgO odd * (qy * Y - py * X)<=Y/\Int.gcd (sgO odd * (px * X - qx * Y)) (sgO odd * (qy * Y - py * X))=Int.gcd X Y/\(qx=0\/(sgO odd * (qy * Y - py * X) < sgO odd * (px * X - qx * Y)/\sgO odd * (px * X - qx * Y)<=Y))
theorem Fore.start {x0 y0:Int} (h0:0<=y0) (h1:y0<=x0):Fore x0 y0 x0 y0 1 0 0 1 false:=by
 refine ⟨h0,h1,by decide,by decide,by decide,by decide,by omega,by omega,by decide,by decide,by decide,by decide,by decide,?_⟩
 intro X Y K a b hX hY a0 a1 b0 b1
 have hK:0<=y0 * K:=Int.mul_nonneg h0 (by omega)
 simp [sgO]
 omega
theorem sgO_cases (odd:Bool):(sgO odd=1/\sgO (!odd) = -1)\/(sgO odd = -1/\sgO (!odd)=1):=by
 cases odd<;>decide
theorem Fore.bounds {x0 y0 x y px qx py qy:Int} {odd:Bool} (h:Fore x0 y0 x y px qx py qy odd) (hy:0 < y) :
  0<=x / y/\1<=x / y/\0<=x % y/\x % y < y/\0<=x / y * py/\0<=x / y * qy/\px + x / y * py<=qx + x / y * qy/\qx + x / y * qy<=x0/\(qx + x / y * qy<=x % y->qx + x / y * qy + qy<=x0)/\y<=x0/\x / y<=x0/\x<=x0:=by
 have hx:=h.yx
 have x1:x * 1<=x * qy:=Int.mul_le_mul_of_nonneg_left h.qy1 (by omega)
 have x2:0<=y * qx:=Int.mul_nonneg (by omega) h.qx0
 have x3:=h.e1
 have x4:x / y<=x:=Int.ediv_le_self y (by omega)
 have t1:1<=x / y:=by
  rw [Int.le_ediv_iff_mul_le hy]; omega
 have r0:=Int.emod_nonneg x (show y≠0 by omega)
 have r1:=Int.emod_lt_of_pos x hy
 have ex:=Int.mul_ediv_add_emod x y
 generalize x / y=t at *
 generalize x % y=r at *
 have p1:=Int.mul_nonneg (show 0<=t by omega) h.py0
 have hq:=h.qy1
 have hq0:=h.qx0
 have q1:=Int.mul_nonneg (show 0<=t by omega) (show 0<=qy by omega)
 have d1:1 * (qy - py)<=t * (qy - py):=Int.mul_le_mul_of_nonneg_right t1 (by have:=h.l1; omega)
 rw [Int.mul_sub,Int.mul_sub] at d1
 have l2:=h.l2
 have e1:=h.e1
 have e:y * (qx + t * qy) + r * qy=x0:=by rw [<- e1,<- ex]; grind
 have m1:1 * (qx + t * qy)<=y * (qx + t * qy):=Int.mul_le_mul_of_nonneg_right (by omega) (by omega)
 have m2:0<=r * qy:=Int.mul_nonneg r0 (by omega)
 have m4:y * 1<=y * (qx + t * qy):=Int.mul_le_mul_of_nonneg_left (by
  have:1 * 1<=t * qy:=Int.mul_le_mul t1 hq (by decide) (by omega)
  omega) (by omega)
 refine ⟨by omega,t1,r0,r1,p1,q1,by omega,by omega,fun hr => ?_,by omega,by omega,by omega⟩
 have hpos:1<=qx + t * qy:=by
  have:1 * 1<=t * qy:=Int.mul_le_mul t1 hq (by decide) (by omega)
  omega
 have m3:1 * qy<=r * qy:=Int.mul_le_mul_of_nonneg_right (by omega) (by omega)
 omega
theorem Fore.step {x0 y0 x y px qx py qy:Int} {odd:Bool} (h:Fore x0 y0 x y px qx py qy odd) (hy:0 < y) (c1:qx + x / y * qy<=x % y) (c2:qx + x / y * qy + qy<=y - x % y) :
  Fore x0 y0 y (x % y) py qy (px + x / y * py) (qx + x / y * qy) (!odd):=by
 obtain ⟨t0,t1,r0,r1,p1,q1,pq,-,-,-,-⟩:=h.bounds hy
 have ex:=Int.mul_ediv_add_emod x y
 generalize x / y=t at *
 generalize x % y=r at *
 obtain ⟨hy0,hyx,hpx,hqx,hpy,hqy,e1,e2,det,l1,l2,l3,l4,full⟩:=h
 have tq:1 * qy<=t * qy:=Int.mul_le_mul_of_nonneg_right t1 (by omega)
 refine ⟨r0,by omega,hpy,by omega,by omega,?_,?_,?_,?_,pq,by omega,by omega,by omega,?_⟩
 ·have:1 * 1<=t * qy:=Int.mul_le_mul t1 hqy (by decide) (by omega)
  omega
 ·rw [<- e1,<- ex]; grind
 ·rw [<- e2,<- ex]; grind
 ·rcases sgO_cases odd with ⟨s1,s2⟩ | ⟨s1,s2⟩<;>rw [s1] at det<;>rw [s2]<;>grind
 ·intro X Y K a b hX hY a0 a1 b0 b1
  obtain ⟨f1,f2,f3,f4⟩:=full X Y K a b hX hY a0 a1 b0 b1
  have E1:sgO (!odd) * (py * X - qy * Y)=sgO odd * (qy * Y - py * X):=by
   rcases sgO_cases odd with ⟨s1,s2⟩ | ⟨s1,s2⟩<;>rw [s1,s2]<;>grind
  have E2:sgO (!odd) * ((qx + t * qy) * Y - (px + t * py) * X)=sgO odd * (px * X - qx * Y) - t * (sgO odd * (qy * Y - py * X)):=by
   rcases sgO_cases odd with ⟨s1,s2⟩ | ⟨s1,s2⟩<;>rw [s1,s2]<;>grind
  have F1:sgO odd * (px * X - qx * Y)=x * K + sgO odd * (px * a - qx * b):=by
   rcases sgO_cases odd with ⟨s1,s2⟩ | ⟨s1,s2⟩<;>rw [s1] at det<;>rw [s1,hX,hY,<- e1,<- e2]<;>grind
  have F2:sgO odd * (qy * Y - py * X)=y * K + sgO odd * (qy * b - py * a):=by
   rcases sgO_cases odd with ⟨s1,s2⟩ | ⟨s1,s2⟩<;>rw [s1] at det<;>rw [s1,hX,hY,<- e1,<- e2]<;>grind
  have G:sgO odd * (px * X - qx * Y) - t * (sgO odd * (qy * Y - py * X))=r * K + sgO odd * ((px + t * py) * a - (qx + t * qy) * b):=by
   rw [F1,F2,<- ex]; grind
  rw [E1,E2]
  have hq':0<=qx + t * qy:=by omega
  have hp':0<=px + t * py:=by omega
  generalize hP:px + t * py=p at *
  generalize hQ:qx + t * qy=q at *
  have k1:q * b<=q * K:=Int.mul_le_mul_of_nonneg_left (by omega) hq'
  have k2:p * a<=p * K:=Int.mul_le_mul_of_nonneg_left (by omega) hp'
  have k3:p * K<=q * K:=Int.mul_le_mul_of_nonneg_right pq (by omega)
  have k4:q * K<=r * K:=Int.mul_le_mul_of_nonneg_right c1 (by omega)
  have k5:0<=p * a:=Int.mul_nonneg hp' a0
  have k6:0<=q * b:=Int.mul_nonneg hq' b0
  have j1:(q + qy) * K<=(y - r) * K:=Int.mul_le_mul_of_nonneg_right c2 (by omega)
  have j2:(q + qy) * b + 1<=(q + qy) * K:=by
   have:(q + qy) * (b + 1)<=(q + qy) * K:=Int.mul_le_mul_of_nonneg_left (by omega) (by omega)
   rw [Int.mul_add] at this; omega
  have j3:(p + py) * a<=(q + qy) * a:=Int.mul_le_mul_of_nonneg_right (by omega) a0
  have j4:(q + qy) * a + 1<=(q + qy) * K:=by
   have:(q + qy) * (a + 1)<=(q + qy) * K:=Int.mul_le_mul_of_nonneg_left (by omega) (by omega)
   rw [Int.mul_add] at this; omega
  have j5:0<=(q + qy) * b:=Int.mul_nonneg (by omega) b0
  have j6:0<=(p + py) * a:=Int.mul_nonneg (by omega) a0
  have hgcd:Int.gcd (sgO odd * (qy * Y - py * X)) (sgO odd * (px * X - qx * Y) - t * (sgO odd * (qy * Y - py * X)))=Int.gcd X Y:=by
   rw [Int.gcd_sub_mul_right_right,Int.gcd_comm]; exact f3
  have key:0<=sgO odd * (px * X - qx * Y) - t * (sgO odd * (qy * Y - py * X))/\sgO odd * (px * X - qx * Y) - t * (sgO odd * (qy * Y - py * X)) < sgO odd * (qy * Y - py * X):=by
   rw [G,F2]
   rw [Int.sub_mul] at j1
   rcases sgO_cases odd with ⟨s1,s2⟩ | ⟨s1,s2⟩<;>rw [s1]
   ·have d1:y * K + 1 * (qy * b - py * a) - (r * K + 1 * (p * a - q * b))=y * K - r * K + (q + qy) * b - (p + py) * a:=by grind
    constructor<;>omega
   ·have d1:y * K + -1 * (qy * b - py * a) - (r * K + -1 * (p * a - q * b))=y * K - r * K + (p + py) * a - (q + qy) * b:=by grind
    constructor<;>omega
  exact ⟨key.1,by omega,hgcd,.inr ⟨key.2,f2⟩⟩
theorem Fore.small {x0 y0 x y px qx py qy:Int} {odd:Bool} (h:Fore x0 y0 x y px qx py qy odd) (h0:0 < x0):px<=x0/\qx<=x0/\py<=x0/\qy<=x0:=by
 have e:=h.e1
 have k1:=h.y0'
 have k2:=h.yx
 have k3:=h.qx0
 have k4:=h.qy1
 have k5:=h.l1
 have k6:=h.l3
 have k7:=h.l4
 have hx:1<=x:=by
  by_cases c:1<=x
  ·exact c
  ·have:x=0:=by omega
   have:y=0:=by omega
   subst_vars
   simp at h0
 have m1:1 * qy<=x * qy:=Int.mul_le_mul_of_nonneg_right hx (by omega)
 have m2:=Int.mul_nonneg k1 k3
 omega
theorem Fore.odd_out {x0 y0 x y px qx py qy X Y K a b:Int} (h:Fore x0 y0 x y px qx py qy true) (hX:X=x0 * K + a) (hY:Y=y0 * K + b) (a0:0<=a) (a1:a < K) (b0:0<=b) (b1:b < K) (hq:qx≠0) :
  X * px<=Y * qx/\Y * qy<=X * py/\Int.gcd (Y * qx - X * px) (X * py - Y * qy)=Int.gcd X Y/\X * py - Y * qy < Y * qx - X * px/\Y * qx - X * px<=Y:=by
 obtain ⟨f1,f2,f3,f4⟩:=h.full X Y K a b hX hY a0 a1 b0 b1
 rw [show sgO true * (qy * Y - py * X)=X * py - Y * qy by simp only [sgO]; grind] at f1 f2 f3 f4
 rw [show sgO true * (px * X - qx * Y)=Y * qx - X * px by simp only [sgO]; grind] at f3 f4
 rcases f4 with e | ⟨f4,f5⟩
 ·exact absurd e hq
 ·exact ⟨by omega,by omega,f3,f4,f5⟩
theorem Fore.even_out {x0 y0 x y px qx py qy X Y K a b:Int} (h:Fore x0 y0 x y px qx py qy false) (hX:X=x0 * K + a) (hY:Y=y0 * K + b) (a0:0<=a) (a1:a < K) (b0:0<=b) (b1:b < K) (hq:qx≠0) :
  Y * qx<=X * px/\X * py<=Y * qy/\Int.gcd (X * px - Y * qx) (Y * qy - X * py)=Int.gcd X Y/\Y * qy - X * py < X * px - Y * qx/\X * px - Y * qx<=Y:=by
 obtain ⟨f1,f2,f3,f4⟩:=h.full X Y K a b hX hY a0 a1 b0 b1
 rw [show sgO false * (qy * Y - py * X)=Y * qy - X * py by simp only [sgO]; grind] at f1 f2 f3 f4
 rw [show sgO false * (px * X - qx * Y)=X * px - Y * qx by simp only [sgO]; grind] at f3 f4
 rcases f4 with e | ⟨f4,f5⟩
 ·exact absurd e hq
 ·exact ⟨by omega,by omega,f3,f4,f5⟩
theorem info_steps:(Tryz.prog.info? 156).map (·.size)=some 5:=by kernel_rfl
theorem under_steps : ∃ f, Tryz.prog.underlying 156 = some (.struct f) := by
  cases h : Tryz.prog.underlying 156 with
  | none => exact absurd h (by have : (Tryz.prog.underlying 156).isSome = true := by kernel_rfl
                               intro e; rw [e] at this; simp at this)
  | some d =>
    have : (match Tryz.prog.underlying 156 with | some (.struct _) => true | _ => false) = true := by kernel_rfl
    rw [h] at this
    cases d <;> first | exact ⟨_, rfl⟩ | simp at this
theorem ret_row {fn:Func} {p:Tmp} {t:TypeId} {cs:Array Value} (h:fn.results=#[.cell p t]) {tmps:Array Value} {w:World} {g:Nat} (hp:tmps.getD p undef=.pointer (some ⟨g,0,none⟩)) (hb:w.heap[g]? = some (.cells cs t (0,0)))
  (hu:∃ f,Tryz.prog.underlying t=some (.struct f)) (hi:(Tryz.prog.info? t).map (·.size)=some cs.size):(results fn tmps).run Tryz.prog w=.ok (.agg cs) w:=by
 have hp':tmps[p]?.getD undef=.pointer (some ⟨g,0,none⟩):=by simpa using hp
 obtain ⟨f,hu⟩:=hu
 have hl:=run_loadVar_row (P:=Tryz.prog) w g t t cs (0,0) _ hb hu rfl hi
 simp [results,h,hp',asAddr,hl]
theorem heap_alloc2 (w:World) (o o':Obj):((w.alloc o).alloc o').heap[w.heap.size]? = some o:=by
 show ((w.heap.push o).push o')[w.heap.size]? = some o
 rw [Array.getElem?_push,if_neg (by simp),Array.getElem?_push_size]
theorem below_two {w W:World} (h:Below w.heap.size w W) (o o':Obj):Below w.heap.size w ((W.alloc o).alloc o') :=
 (h.alloc h.size o).alloc (Nat.le_trans h.size (by simp)) o'
theorem drew_more {w W:World} (h:Hid (∃ n,W=w.drewN n)) (k:Nat):Hid (∃ n,W.drewN k=w.drewN n):=by
 obtain ⟨n,rfl⟩:=h.out
 exact ⟨n + k,World.drewN_drewN _ _ _⟩
theorem drewN_out (W:World) (A C:Obj) (k:Nat):((W.alloc A).alloc C).drewN k=((W.drewN k).alloc A).alloc C:=rfl
structure ForeEnd (x0 y0:Int) (w:World) (e:Ending) (w':World):Prop where
 ex:∃ (x y px qx py qy:Int) (odd:Bool),e=.returned (.agg #[.int .u64 px,.int .u64 qx,.int .u64 py,.int .u64 qy,.bool odd])/\Fore x0 y0 x y px qx py qy odd/\Below w.heap.size w w'
structure ForeIn (x0 y0:Int) (w:World) (tx ty:Value) (wr:World):Prop where
 ex:∃ (x y px qx py qy:Int) (odd:Bool) (n:Nat),tx=.int .u64 x/\ty=.int .u64 y/\Fore x0 y0 x y px qx py qy odd/\wr=((w.drewN n).alloc (.cells #[.int .u64 0,.int .u64 0,.int .u64 0,.int .u64 0,.bool false] 156)).alloc (.cells #[.int .u64 px,.int .u64 qx,.int .u64 py,.int .u64 qy,.bool odd] 156)
theorem foresee_any (x0 y0:Int) (w:World) (hy:0<=y0) (hyx:y0<=x0) (hx:x0 < 18446744073709551616) :
  Calls Tryz.prog 148 #[.int .u64 x0,.int .u64 y0] w (ForeEnd x0 y0 w):=by
 go_enter Tryz.func148,Tryz.ntmps148
 go_wp2
 go_loopw [0,1] (fun tx ty wr=>ForeIn x0 y0 w tx ty wr) (fun _ ty _=>(intOf ty).toNat)
 case atStart=>exact ⟨x0,y0,1,0,0,1,false,0,rfl,rfl,Fore.start hy hyx,rfl⟩
 case round =>
  obtain ⟨x,y,px,qx,py,qy,odd,n,rfl,rfl,hF,rfl⟩:=hrel.ex
  have hWs:w.heap.size=(w.drewN n).heap.size:=rfl
  rw [hWs]
  have hWb:Below w.heap.size w (w.drewN n):=below_drewN (Below.refl _ _) n
  have hWe:Hid (∃ n',w.drewN n=w.drewN n'):=⟨n,rfl⟩
  generalize w.drewN n=W at *
  have hWh:Hid (w.heap.size=W.heap.size):=hWs
  clear hWs
  have hy0:=hF.y0'
  by_cases hb:y=0
  ·subst hb
   go_wp2
   refine bodyPost_ret (ret_row rfl rfl (heap_alloc2 _ _ _) under_steps info_steps) rfl ?_
   exact ⟨x,0,px,qx,py,qy,odd,rfl,hF,below_two hWb _ _⟩
  ·have hb':(y != 0)=true:=by rw [bne_iff_ne]; exact hb
   have hb2:(y == 0)=false:=beq_eq_false_iff_ne.2 hb
   obtain ⟨t0,t1,r0,r1,p1,q1,pq,qb,qqb,yb,tb,xb⟩:=hF.bounds (by omega)
   have hST:=fun c1 c2=>hF.step (by omega) c1 c2
   have hpx:=hF.px0
   have hqx:=hF.qx0
   have hqy:=hF.qy1
   have hpy:=hF.py0
   have hyx2:=hF.yx
   have hx0':0<=x:=by omega
   obtain ⟨t,ht⟩:∃ t,x / y=t:=⟨_,rfl⟩
   obtain ⟨r,hr⟩:∃ r,x % y=r:=⟨_,rfl⟩
   simp only [ht,hr] at t0 t1 r0 r1 p1 q1 pq qb qqb tb hST
   go_wp2_with fail
   go_quiet (fail)
   rw [ht,hr,drewN_out,show W.heap.size=(W.drewN nq).heap.size from rfl]
   replace hWb:=below_drewN hWb nq
   replace hWe:=drew_more hWe nq
   generalize W.drewN nq=W1 at *
   have hbp:0<=t * py/\t * py < 18446744073709551616:=by omega
   have hbq:0<=t * qy/\t * qy < 18446744073709551616:=by omega
   have hbp2:0<=px + t * py/\px + t * py < 18446744073709551616:=by omega
   have hbq2:0<=qx + t * qy/\qx + t * qy < 18446744073709551616:=by omega
   go_wp2_with fail
   go_quiet (fail)
   rw [drewN_out,show W1.heap.size=(W1.drewN nq).heap.size from rfl]
   replace hWb:=below_drewN hWb nq
   replace hWe:=drew_more hWe nq
   have hk2:w.heap.size<=w.heap.size:=Nat.le_refl _
   generalize hW2:W1.drewN nq=W2 at *
   obtain ⟨p,hp⟩:∃ p,px + t * py=p:=⟨_,rfl⟩
   obtain ⟨q,hq⟩:∃ q,qx + t * qy=q:=⟨_,rfl⟩
   rw [hp,hq]
   simp only [hp,hq] at hST pq qb qqb hbp2 hbq2
   clear hp hq ht hr hW2 hbp hbq hk2
   by_cases c1:r < q
   ·have c1':decide (r < q)=true:=decide_eq_true c1
    go_wp2
    refine bodyPost_ret (ret_row rfl rfl (heap_alloc2 _ _ _) under_steps info_steps) rfl ?_
    exact ⟨x,y,px,qx,py,qy,odd,rfl,hF,below_two hWb _ _⟩
   ·have c1':decide (r < q)=false:=decide_eq_false c1
    have hqq:=qqb (by omega)
    have hs1:0<=y - r/\y - r < 18446744073709551616:=by omega
    have hs2:0<=q + qy/\q + qy < 18446744073709551616:=by omega
    by_cases c2:y - r < q + qy
    ·have c2':decide (y - r < q + qy)=true:=decide_eq_true c2
     go_wp2
     refine bodyPost_ret (ret_row rfl rfl (heap_alloc2 _ _ _) under_steps info_steps) rfl ?_
     exact ⟨x,y,px,qx,py,qy,odd,rfl,hF,below_two hWb _ _⟩
    ·have c2':decide (y - r < q + qy)=false:=decide_eq_false c2
     go_wp2
     obtain ⟨n',rfl⟩:=hWe.out
     exact ⟨⟨_,_,⟨y,r,py,qy,p,q,!odd,n',rfl,rfl,hST (by omega) (by omega),rfl⟩,rfl,rfl,hWh.out⟩,by simp [intOf]; omega⟩
end
section
open Go.RowKit Lim
theorem two_split {s:Nat} (hs:s<=64):(18446744073709551616:Int)=2 ^ s * 2 ^ (64 - s):=by
 rw [<- Int.pow_add,show s + (64 - s)=64 by omega]; rfl
theorem high_val {l:List Int} (wl:Words l) {k s:Nat} (hl:l.length<=k + 2) (hs:s<=63) :
  ∃ a,val l=(nth l (k + 1) * 2 ^ s + nth l k / 2 ^ (64 - s)) * (18446744073709551616 ^ k * 2 ^ (64 - s)) + a/\0<=a/\a < 18446744073709551616 ^ k * 2 ^ (64 - s):=by
 have hD:(0:Int) < 2 ^ (64 - s):=Int.pow_pos (by decide)
 have hB:=pow_pos k
 have hS:=two_split (s:=s) (by omega)
 have e1:val l=val (l.take k) + 18446744073709551616 ^ k * (nth l k + 18446744073709551616 * nth l (k + 1)):=by
  by_cases c:l.length<=k
  ·rw [List.take_of_length_le c,nth_ge c,nth_ge (by omega)]; simp
  ·rw [val_split l k (by omega),val_drop (by omega)]
   by_cases c2:l.length<=k + 1
   ·rw [List.drop_of_length_le c2,nth_ge c2]; rfl
   ·rw [val_drop (by omega),List.drop_of_length_le (show l.length<=k + 1 + 1 by omega)]
    simp [val]
 have hm:=Int.mul_ediv_add_emod (nth l k) (2 ^ (64 - s))
 have r0:=Int.emod_nonneg (nth l k) (show (2:Int) ^ (64 - s)≠0 by omega)
 have r1:=Int.emod_lt_of_pos (nth l k) hD
 have h0:=val_nonneg (wl.take k)
 have h1:=val_lt (wl.take k)
 have h2:val (l.take k) < 18446744073709551616 ^ k:=Int.lt_of_lt_of_le h1 (pow_mono (by simp; omega))
 refine ⟨val (l.take k) + 18446744073709551616 ^ k * (nth l k % 2 ^ (64 - s)),?_,?_,?_⟩
 ·rw [e1]
  generalize nth l k / 2 ^ (64 - s)=q at *
  generalize nth l k % 2 ^ (64 - s)=r at *
  rw [<- hm]
  generalize (18446744073709551616:Int) ^ k=Bk at *
  rw [hS]
  grind
 ·have:=Int.mul_nonneg (Int.le_of_lt hB) r0; omega
 ·have:18446744073709551616 ^ k * (nth l k % 2 ^ (64 - s) + 1)<=18446744073709551616 ^ k * 2 ^ (64 - s):=Int.mul_le_mul_of_nonneg_left (by omega) (Int.le_of_lt hB)
  rw [Int.mul_add] at this
  omega
theorem high_or {h l:Int} {s:Nat} (hs:s<=63) (h0:0<=h) (h1:h * 2 ^ s < 18446744073709551616) (l0:0<=l) (l1:l < 18446744073709551616) :
  bits .or .u64 (h * 2 ^ s) (l / 2 ^ (64 - s))=h * 2 ^ s + l / 2 ^ (64 - s)/\0<=h * 2 ^ s + l / 2 ^ (64 - s)/\h * 2 ^ s + l / 2 ^ (64 - s) < 18446744073709551616:=by
 have hD:(0:Int) < 2 ^ (64 - s):=Int.pow_pos (by decide)
 have hP:(0:Int) < 2 ^ s:=Int.pow_pos (by decide)
 have hS:=two_split (s:=s) (by omega)
 have q0:0<=l / 2 ^ (64 - s):=Int.ediv_nonneg l0 (Int.le_of_lt hD)
 have q1:l / 2 ^ (64 - s) < 2 ^ s:=by
  rw [Int.ediv_lt_iff_lt_mul hD,<- hS]; exact l1
 have m0:0<=h * 2 ^ s:=Int.mul_nonneg h0 (Int.le_of_lt hP)
 have hP2:(2:Int) ^ s < 2 ^ 64:=by
  have:(2:Nat) ^ s < 2 ^ 64:=Nat.pow_lt_pow_right (by decide) (by omega)
  exact_mod_cast this
 have h2:(h + 1) * 2 ^ s<=18446744073709551616:=by
  rw [hS,Int.mul_comm (2 ^ s)] at h1 ⊢
  have:=le_of_mul_lt hP h1
  exact Int.mul_le_mul_of_nonneg_right (by omega) (Int.le_of_lt hP)
 rw [Int.add_mul] at h2
 refine ⟨?_,by omega,by omega⟩
 exact or_add _ _ s h rfl h0 (by omega) q0 q1 (by omega)
theorem top_le {l l':List Int} (wl:Words l) (wl':Words l') {k:Nat} (hl:l.length=k + 2) (hl':l'.length<=k + 2) (h:val l'<=val l):nth l' (k + 1)<=nth l (k + 1):=by
 by_cases c:l'.length<=k + 1
 ·rw [nth_ge c]; exact (wl.nth _).1
 ·have t1:=(top1 (n:=k + 1) wl' (by omega)).1
  have t2:=(top1 (n:=k + 1) wl (by omega)).2
  have:=le_of_mul_lt (pow_pos (k + 1)) (show nth l' (k + 1) * 18446744073709551616 ^ (k + 1) < (nth l (k + 1) + 1) * 18446744073709551616 ^ (k + 1) by omega)
  omega
theorem highBits_any (ao:Option Addr) (n c b o k s:Nat) (l:List Int) (w:World) (hl:l.length=n) (hbig:n<=2199023255552) (hk:k<=2199023255552) (wl:Words l) (ha:At w ao b o l) (hs:s<=63) (h1:nth l (k + 1) * 2 ^ s < 18446744073709551616) :
  Calls Tryz.prog 149 #[.slice ao n c,.int .i64 ((k:Int) + 2),.int .i64 s] w fun e w'=>e=.returned (.int .u64 (nth l (k + 1) * 2 ^ s + nth l k / 2 ^ (64 - s)))/\Below w.heap.size w w':=by
 obtain ⟨o1,o2,o3⟩:=high_or hs (wl.nth (k + 1)).1 h1 (wl.nth k).1 (wl.nth k).2
 have hP:(0:Int) < 2 ^ s:=Int.pow_pos (by decide)
 have m0:0<=nth l (k + 1) * 2 ^ s:=Int.mul_nonneg (wl.nth _).1 (Int.le_of_lt hP)
 have hb64:(64:Int) - s=((64 - s:Nat):Int):=by omega
 have w1:=wl.nth (k + 1)
 have w2:=wl.nth k
 have hi1:((k:Int) + 2) - 1=(k:Int) + 1:=by omega
 have hi2:((k:Int) + 2) - 2=(k:Int):=by omega
 go_enter Tryz.func149,Tryz.ntmps149
 generalize hkk:((k:Int) + 2)=kk at *
 clear hkk
 by_cases c2:k + 1 < n
 ·rcases ha.loc with e | rfl
  ·subst e; simp at hl; omega
  have c1:k < n:=by omega
  have z1:=ha.cell (k + 1) (by omega)
  have z2:=ha.cell k (by omega)
  clear ha wl
  generalize nth l (k + 1)=x at *
  generalize nth l k=y at *
  go_wp2_with fail
  go_quiet (fail)
  go_wp2
  go_ret
  exact ⟨rfl,below_drewN (Below.refl _ _) _⟩
 ·have e1:nth l (k + 1)=0:=nth_ge (by omega)
  by_cases c1:k < n
  ·rcases ha.loc with e | rfl
   ·subst e; simp at hl; omega
   have z2:=ha.cell k (by omega)
   clear ha wl
   simp only [e1,Int.zero_mul] at o1 o2 o3 m0 h1 w1 ⊢
   generalize nth l k=y at *
   go_wp2_with fail
   go_quiet (fail)
   go_wp2
   go_ret
   exact ⟨ret1 (Int.zero_add _).symm,below_drewN (Below.refl _ _) _⟩
  ·have e2:nth l k=0:=nth_ge (by omega)
   clear ha wl
   simp only [e1,e2,Int.zero_mul,Int.zero_ediv] at o1 o2 o3 m0 h1 w1 w2 ⊢
   go_wp2_with fail
   go_quiet (fail)
   go_wp2
   go_ret
   exact ⟨ret1 o1,below_drewN (Below.refl _ _) _⟩
theorem val_zero_list (n:Nat):val (List.replicate n 0)=0:=val_zeros fun i=>by
 by_cases h:i < n
 ·rw [nth_eq (by simpa using h)]; simp
 ·exact nth_ge (by simp; omega)
theorem differ_fin {lx ly lz:List Int} {a m n owed:Int} {N:Nat} (wx:Words lx) (hx:lx.length<=N) (m0:0<=m) (m1:m < 18446744073709551616) (ha:a=(0 + val lx * m) % 18446744073709551616 ^ (N + 1)) (hge:val ly * n<=val lx * m) (wz:Words lz) (hl:lz.length=N + 1) (o0:0<=owed)
  (hv:val lz=a - val ly * n + 18446744073709551616 ^ (N + 1) * owed):IsN (norm lz) (val lx * m - val ly * n):=by
 have h1:=val_lt wx
 have h2:=val_nonneg wx
 have h3:val lx < 18446744073709551616 ^ N:=Int.lt_of_lt_of_le h1 (pow_mono hx)
 have h4:val lx * m<=val lx * 18446744073709551616:=Int.mul_le_mul_of_nonneg_left (by omega) h2
 have h5:(18446744073709551616:Int) ^ (N + 1)=18446744073709551616 ^ N * 18446744073709551616:=Int.pow_succ _ _
 have h6:=Int.mul_nonneg h2 m0
 rw [Int.zero_add,Int.emod_eq_of_lt h6 (by omega)] at ha
 have h7:=val_lt wz
 have h8:=val_nonneg wz
 rw [hl] at h7
 have hp:=pow_pos (N + 1)
 have ho:owed=0:=by
  by_cases h:0 < owed
  ·have:18446744073709551616 ^ (N + 1) * 1<=18446744073709551616 ^ (N + 1) * owed:=Int.mul_le_mul_of_nonneg_left (by omega) (Int.le_of_lt hp)
   omega
  ·omega
 subst ho
 rw [show val lx * m - val ly * n=val lz by rw [hv,ha]; simp]
 exact isN_norm wz
theorem differ_any (ao:Option Addr) (n c b o:Nat) (ao':Option Addr) (n' c' b' o':Nat) (l l':List Int) (m m':Int) (w:World) (hl:l.length=n) (hl':l'.length=n') (hc:n<=c) (hc':n'<=c') (hbig:n<=1099511627776) (hbig':n'<=1099511627776)
  (wl:Words l) (wl':Words l') (ha:At w ao b o l) (ha':At w ao' b' o' l') (m0:0<=m) (m1:m < 18446744073709551616) (m0':0<=m') (m1':m' < 18446744073709551616) (hge:val l' * m'<=val l * m) :
  Calls Tryz.prog 150 #[.slice ao n c,.slice ao' n' c',.int .u64 m,.int .u64 m'] w fun e w'=>∃ v r,e=.returned v/\NewV w w' v r/\IsN r (val l * m - val l' * m')/\Below w.heap.size w w':=by
 have HM:Hid (∃ N,n<=N/\n'<=N/\N<=1099511627776/\((N=n'/\n < n')\/(N=n/\n'<=n))):=by
  rcases Nat.lt_or_ge n n' with h | h
  ·exact ⟨n',by omega,by omega,by omega,.inl ⟨rfl,h⟩⟩
  ·exact ⟨n,by omega,by omega,by omega,.inr ⟨rfl,h⟩⟩
 go_enter Tryz.func150,Tryz.ntmps150
 obtain ⟨N,N1,N2,N3,N4⟩:=HM.out
 rcases N4 with ⟨eN,hN⟩ | ⟨eN,hN⟩<;>(
  have hNi:(N:Int)=_:=congrArg Nat.cast eN
  clear eN
  go_wp2_with (at_make; refine wpList_makeN rfl _ _ rfl (N + 1) _ _ rfl rfl (by omega) (by omega) (by omega) ?_; intro w1 hrow hbel hsz)
  have hne1:l=[]\/b≠w.heap.size:=ha.lt.imp id (fun h=>by omega)
  have hne2:l'=[]\/b'≠w.heap.size:=ha'.lt.imp id (fun h=>by omega)
  refine (addTimes_any _ w.heap.size 0 _ _ _ b o _ _ m _ l w1 (by simp) hl (by omega) (by omega) (Nat.le_refl _) hc m0 m1 (words_zero _) wl hrow.at (hrow.free _ _) (ha.keep hbel) hne1).mono ?_
  rintro e w2 ⟨rfl,lz,hlz,wz,hat,hwr,hvz⟩
  rw [val_zero_list] at hvz
  have HB:Below w.heap.size w w2:=hbel.trans (hwr.below (Nat.le_refl _))
  go_wp2_with fail
  refine (takeTimes_any _ w.heap.size 0 _ _ _ b' o' _ _ m' lz l' w2 hlz hl' (by omega) (by omega) (Nat.le_refl _) hc' m0' m1' wz wl' hat (hwr.free (hrow.free _ _)) (ha'.keep HB) hne2).mono ?_
  rintro e w3 ⟨owed,rfl,ho0,ho1,lz2,hlz2,wz2,hat2,hwr2,hvz2⟩
  have HF:IsN (norm lz2) (val l * m - val l' * m'):=differ_fin wl (by omega) m0 m1 hvz hge wz2 hlz2 ho0 hvz2
  have HB2:Below w.heap.size w w3:=HB.trans (hwr2.below (Nat.le_refl _))
  have hfz:=hwr2.free (hwr.free (hrow.free 0 (N + 1)))
  have hz1:=nlen_le lz2
  have hz2:=norm_length lz2
  have hz3:=hat2.sub (nlen lz2)
  rw [show lz2.take (nlen lz2)=norm lz2 from rfl] at hz3
  have t3:=trim_any (some ⟨w.heap.size,0,none⟩) (N + 1) (N + 1) lz2 w3 hlz2 (Nat.le_refl _) (by omega) hat2.cells
  clear hrow hbel hwr hat hwr2 hat2 hvz hvz2 HB
  generalize nlen lz2=K at *
  generalize norm lz2=R at *
  go_wp2_with fail
  refine t3.mono ?_
  rintro e w4 ⟨rfl,rfl⟩
  go_wp2
  go_ret
  exact ⟨_,R,rfl,NewV.of hz2.symm (Nat.le_refl _) (Nat.le_refl _) hz3 (fun i hi=>hfz i (by omega)),HF,HB2⟩)
end
section
open Go.RowKit Lim
structure NewN (w w':World) (v:Value) (b:Nat) (l:List Int):Prop where
 is:∃ ao o c,v=.slice ao l.length c/\l.length<=c/\w.heap.size<=b/\At w' ao b o l/\Free w' b o l.length
theorem NewV.b {w w':World} {v:Value} {l:List Int} (h:NewV w w' v l):∃ b,NewN w w' v b l:=by
 obtain ⟨ao,b,o,c,h1,h2,h3,h4,h5⟩:=h.is
 exact ⟨b,ao,o,c,h1,h2,h3,h4,h5⟩
theorem NewN.v {w w':World} {v:Value} {b:Nat} {l:List Int} (h:NewN w w' v b l):NewV w w' v l:=by
 obtain ⟨ao,o,c,h1,h2,h3,h4,h5⟩:=h.is
 exact ⟨ao,b,o,c,h1,h2,h3,h4,h5⟩
theorem NewN.mono {w0 w w1:World} {v:Value} {b:Nat} {l:List Int} (h:NewN w w1 v b l) (hb:w0.heap.size<=w.heap.size):NewN w0 w1 v b l:=by
 obtain ⟨ao,o,c,h1,h2,h3,h4,h5⟩:=h.is
 exact ⟨ao,o,c,h1,h2,Nat.le_trans hb h3,h4,h5⟩
theorem NewN.later {w w1 w2:World} {v:Value} {b:Nat} {l:List Int} (h:NewN w w1 v b l) (hb:Below w1.heap.size w1 w2):NewN w w2 v b l:=by
 obtain ⟨ao,o,c,h1,h2,h3,h4,h5⟩:=h.is
 refine ⟨ao,o,c,h1,h2,h3,h4.keep hb,?_⟩
 rcases h4.lt with e | e
 ·subst e; exact fun i hi=>by simp at hi
 ·exact Free.below hb h5 e
theorem NewN.ge {w w':World} {v:Value} {b:Nat} {l:List Int} (h:NewN w w' v b l):w.heap.size<=b:=by
 obtain ⟨ao,o,c,h1,h2,h3,h4,h5⟩:=h.is
 exact h3
theorem NewN.lt {w w':World} {v:Value} {b:Nat} {l:List Int} (h:NewN w w' v b l):l=[]\/b < w'.heap.size:=by
 obtain ⟨ao,o,c,h1,h2,h3,h4,h5⟩:=h.is
 exact h4.lt
theorem ne_nil_of_pos {l:List Int} {x:Int} (h:IsN l x) (hx:0 < x):l≠[]:=by
 rintro rfl
 have:=h.2.2
 simp [val] at this
 omega
structure ShrPost (w:World) (e:Ending) (w':World) (X Y:Int) (vy:Value) (by':Nat) (ly:List Int):Prop where
 ex:∃ v1 v2 r1 r2 b1 b2 X' Y',e=.returned (.tuple #[v1,v2])/\(NewN w w' v1 b1 r1\/(v1=vy/\r1=ly/\b1=by'))/\NewN w w' v2 b2 r2/\b1≠b2/\IsN r1 X'/\IsN r2 Y'/\Int.gcd X' Y'=Int.gcd X Y/\Y' < X'/\X'<=Y/\Below w.heap.size w w'
structure Steps (w:World) (g:Nat) (px qx py qy:Int) (odd:Bool):Prop where
 blk:w.heap[g]? = some (.cells #[.int .u64 px,.int .u64 qx,.int .u64 py,.int .u64 qy,.bool odd] 156 (0,0))
theorem Steps.keep {w w':World} {g:Nat} {px qx py qy:Int} {odd:Bool} (h:Steps w g px qx py qy odd) (hb:Below w.heap.size w w'):Steps w' g px qx py qy odd :=
 ⟨by rw [hb.block g (Array.getElem?_eq_some_iff.1 h.blk).1]; exact h.blk⟩
theorem Steps.cells {w:World} {g:Nat} {px qx py qy:Int} {odd:Bool} (h:Steps w g px qx py qy odd) :
  w.cell? ⟨g,0,none⟩=some (.int .u64 px)/\w.cell? ⟨g,1,none⟩=some (.int .u64 qx)/\w.cell? ⟨g,2,none⟩=some (.int .u64 py)/\w.cell? ⟨g,3,none⟩=some (.int .u64 qy)/\w.cell? ⟨g,4,none⟩=some (.bool odd):=by
 have:=h.blk
 simp [World.cell?,this]
theorem Steps.drew {w:World} {g:Nat} {px qx py qy:Int} {odd:Bool} (h:Steps w g px qx py qy odd):Steps w.drew g px qx py qy odd:=⟨h.blk⟩
theorem shrink_any (ao : Option Addr) (n c b o : Nat) (ao' : Option Addr) (n' c' b' o' : Nat) (l l' : List Int) (w : World) (hl : l.length = n) (hl' : l'.length = n') (hc : n ≤ c) (hc' : n' ≤ c') (hbig : n ≤ 1099511627776) (hbig' : n' ≤ 1099511627776)
    (hI : IsN l (val l)) (hI' : IsN l' (val l')) (ha : At w ao b o l) (ha' : At w ao' b' o' l') (hge : val l' ≤ val l) (h2 : 2 ≤ n') :
    Calls Tryz.prog 129 #[.slice ao n c, .slice ao' n' c'] w fun e w' => ShrPost w e w' (val l) (val l') (.slice ao' n' c') b' l' := by
  have wl := hI.1
  have wl' := hI'.1
  have hnn : n' ≤ n := by
    rcases Nat.lt_or_ge n n' with h | h
    · have := val_lt_of_nlen_lt wl wl' (by rw [hI.2.1, hI'.2.1]; omega); omega
    · exact h
  obtain ⟨k, rfl⟩ : ∃ k, n = k + 2 := ⟨n - 2, by omega⟩
  have htop : nth l (k + 1) ≠ 0 := by
    have := nlen_last (l := l) (by rw [hI.2.1]; omega)
    rw [hI.2.1, hl] at this
    exact this
  have hw1 := wl.nth (k + 1)
  have hle := top_le wl wl' hl (by omega) hge
  have hle0 := (wl'.nth (k + 1)).1
  have hv0' : val l' ≠ 0 := by
    intro e
    have := (nlen_eq_zero_iff_val wl').2 e
    rw [hI'.2.1] at this; omega
  have tD := fun W (hb : Below w.heap.size w W) => div_any ao (k + 2) c b o ao' n' c' b' o' l l' W hl hl' hc hc' hbig hbig' wl wl' (ha.keep hb) (ha'.keep hb) hv0'
  have tX := fun W (hb : Below w.heap.size w W) (m m' : Int) (m0 : 0 ≤ m) (m1 : m < 18446744073709551616) (m0' : 0 ≤ m') (m1' : m' < 18446744073709551616) (hg : val l' * m' ≤ val l * m) => differ_any ao (k + 2) c b o ao' n' c' b' o' l l' m m' W hl hl' hc hc' hbig hbig' wl wl' (ha.keep hb) (ha'.keep hb) m0 m1 m0' m1' hg
  have tY := fun W (hb : Below w.heap.size w W) (m m' : Int) (m0 : 0 ≤ m) (m1 : m < 18446744073709551616) (m0' : 0 ≤ m') (m1' : m' < 18446744073709551616) (hg : val l * m' ≤ val l' * m) => differ_any ao' n' c' b' o' ao (k + 2) c b o l' l m m' W hl' hl hc' hc hbig' hbig wl' wl (ha'.keep hb) (ha.keep hb) m0 m1 m0' m1' hg
  have tH := fun (s : Nat) W (hb : Below w.heap.size w W) hs h1 => highBits_any ao (k + 2) c b o k s l W hl (by omega) (by omega) wl (ha.keep hb) hs h1
  have tH' := fun (s : Nat) W (hb : Below w.heap.size w W) hs h1 => highBits_any ao' n' c' b' o' k s l' W hl' (by omega) (by omega) wl' (ha'.keep hb) hs h1
  have hV := fun (s : Nat) hs => high_val (s := s) wl (k := k) (by omega) hs
  have hV' := fun (s : Nat) hs => high_val (s := s) wl' (k := k) (by omega) hs
  have hO := fun (s : Nat) hs (h1 : nth l (k + 1) * 2 ^ s < 18446744073709551616) => high_or (s := s) hs hw1.1 h1 (wl.nth k).1 (wl.nth k).2
  have hO' := fun (s : Nat) hs (h1 : nth l' (k + 1) * 2 ^ s < 18446744073709551616) => high_or (s := s) hs hle0 h1 (wl'.nth k).1 (wl'.nth k).2
  rcases ha.loc with e | rfl
  · subst e; simp at hl
  have hcell := ha.cell (k + 1) (by omega)
  have hidx : ((k + 2 : Nat) : Int) - 1 = (k + 1 : Nat) := by omega
  have hblt : b' < w.heap.size := by
    rcases ha'.lt with e | e
    · subst e; simp at hl'; omega
    · exact e
  clear ha ha' wl wl'
  go_enter Tryz.func129, Tryz.ntmps129
  go_wp2_with fail
  refine (clz_n _ w (by omega) hw1.2).mono ?_
  rintro e w1 ⟨s, rfl, hs, HS, hww⟩
  subst w1
  have hs2 := HS.out.2
  have hpp : (0 : Int) < 2 ^ s := Int.pow_pos (by decide)
  have hs3 : nth l' (k + 1) * 2 ^ s < 18446744073709551616 := by
    have := Int.mul_le_mul_of_nonneg_right hle (Int.le_of_lt hpp)
    omega
  obtain ⟨a, hXa, a0, a1⟩ := hV s hs
  obtain ⟨a', hYa, a0', a1'⟩ := hV' s hs
  have q1 := (hO s hs hs2).2
  have q2 := (hO' s hs hs3).2
  have hx0 : 0 < nth l (k + 1) * 2 ^ s + nth l k / 2 ^ (64 - s) := by
    have hh := HS.out.1
    have hD : (0 : Int) < 2 ^ (64 - s) := Int.pow_pos (by decide)
    have : 0 ≤ nth l k / 2 ^ (64 - s) := Int.ediv_nonneg (hI.1.nth k).1 (Int.le_of_lt hD)
    omega
  have tH1 := fun W hb => tH s W hb hs hs2
  have tH2 := fun W hb => tH' s W hb hs hs3
  clear hV hV' hO hO' tH tH'
  generalize nth l (k + 1) * 2 ^ s + nth l k / 2 ^ (64 - s) = x0 at *
  generalize nth l' (k + 1) * 2 ^ s + nth l' k / 2 ^ (64 - s) = y0 at *
  generalize (18446744073709551616 : Int) ^ k * 2 ^ (64 - s) = Kk at *
  have hyx : y0 ≤ x0 := by
    by_cases c : y0 ≤ x0
    · exact c
    · have : (x0 + 1) * Kk ≤ y0 * Kk := Int.mul_le_mul_of_nonneg_right (by omega) (by omega)
      rw [Int.add_mul] at this
      omega
  have HX : Hid (val l = x0 * Kk + a) := hXa
  have HY : Hid (val l' = y0 * Kk + a') := hYa
  clear hXa hYa hs2 hs3 hle
  go_wp2_with fail
  refine (tH1 w (Below.refl _ _)).mono ?_
  rintro e w1 ⟨rfl, hb1⟩
  go_wp2_with fail
  refine (tH2 w1 hb1).mono ?_
  rintro e w2 ⟨rfl, hb2⟩
  have HB2 : Below w.heap.size w w2 := hb1.trans (hb2.mono hb1.size)
  go_wp2_with fail
  refine (foresee_any x0 y0 w2 q2.1 hyx q1.2).mono ?_
  rintro e w3 hfe
  obtain ⟨x, y, px, qx, py, qy, odd, rfl, hF, hb3⟩ := hfe.ex
  have HB3 : Below w.heap.size w w3 := HB2.trans (hb3.mono HB2.size)
  obtain ⟨z1, z2, z3, z4⟩ := hF.small hx0
  have z5 := hF.px0
  have z6 := hF.qx0
  have z7 := hF.py0
  have z8 := hF.qy1
  have HF : Hid (Fore x0 y0 x y px qx py qy odd) := hF
  clear hF hb1 hb2 hb3 HB2 hfe tH1 tH2
  by_cases hq : qx = 0
  · subst hq
    have HB4 : Below w.heap.size w (w3.alloc (.cells #[.int .u64 px, .int .u64 0, .int .u64 py, .int .u64 qy, .bool odd] 156)) := HB3.alloc HB3.size _
    have hm := Int.emod_lt_of_pos (val l) (show 0 < val l' by have := val_nonneg hI'.1; omega)
    go_wp2_with fail
    refine (tD _ HB4).mono ?_
    rintro e w5 ⟨v, u, r, t, rfl, hn1, hn2, i1, i2, -, -, hb5⟩
    go_wp2
    go_ret2
    obtain ⟨bu, hn2⟩ := (hn2.mono HB4.size).b
    have hbu := hn2.ge
    exact ⟨_, u, l', t, b', bu, _, _, rfl, .inr ⟨rfl, rfl, rfl⟩, hn2, by omega, hI', i2, gcd_step _ _ (val_nonneg hI.1) (val_nonneg hI'.1), hm, Int.le_refl _, HB4.trans (hb5.mono HB4.size)⟩
  · have hq' : (qx == 0) = false := beq_eq_false_iff_ne.2 hq
    cases odd
    · go_wp2_with fail
      have hSt : Steps (w3.alloc (.cells #[.int .u64 px, .int .u64 qx, .int .u64 py, .int .u64 qy, .bool false] 156)) w3.heap.size px qx py qy false := ⟨Array.getElem?_push_size⟩
      have HB4 : Below w.heap.size w (w3.alloc (.cells #[.int .u64 px, .int .u64 qx, .int .u64 py, .int .u64 qy, .bool false] 156)).drew := (HB3.alloc HB3.size _).drew
      obtain ⟨g1, g2, g3', g4, g5⟩ := HF.out.even_out HX.out HY.out a0 a1 a0' a1' hq
      generalize w3.alloc (.cells #[.int .u64 px, .int .u64 qx, .int .u64 py, .int .u64 qy, .bool false] 156) = W at *
      generalize w3.heap.size = g at *
      obtain ⟨c0, c1, c2, c3, c4⟩ := hSt.cells
      have hz4 := HB4.size
      have g3 := (show Hid _ from g3')
      clear g3' hcell tD c4
      have mark0 : True := trivial
      have mark1 : True := trivial
      go_region_held3 (fun w' => w'.cell? ⟨g, 0, none⟩ = some (.int .u64 px) ∧ w'.cell? ⟨g, 1, none⟩ = some (.int .u64 qx) ∧ w'.cell? ⟨g, 2, none⟩ = some (.int .u64 py) ∧ w'.cell? ⟨g, 3, none⟩ = some (.int .u64 qy)) (first | exact ⟨by assumption, by assumption, by assumption, by assumption⟩ | go_keep)
        (first
        | (go_at_call 150; clear mark0; refine (tX _ HB4 px qx (by omega) (by omega) (by omega) (by omega) (by omega)).mono ?_; rintro e wA ⟨vA, rA, rfl, nA, iA, bA⟩; obtain ⟨c0, c1, c2, c3, c4⟩ := (hSt.drew.keep bA).cells; clear c4; have HBA := HB4.trans (bA.mono hz4))
        | (go_at_call 150; clear mark1; refine (tY _ HBA qy py (by omega) (by omega) (by omega) (by omega) (by omega)).mono ?_; rintro e wZ ⟨vB, rB, rfl, nB, iB, bB⟩; obtain ⟨c0, c1, c2, c3, c4⟩ := ((hSt.drew.keep bA).keep bB).cells; clear c4; have HBZ := HBA.trans (bB.mono HBA.size)))
      go_wp2
      go_ret2
      obtain ⟨uA, nA'⟩ := nA.b
      obtain ⟨uB, nB'⟩ := nB.b
      have hlA : uA < wA.heap.size := nA'.lt.resolve_left (ne_nil_of_pos iA (by have := val_nonneg iB.1; have := iB.2.2; omega))
      have hgB := nB'.ge
      exact ⟨vA, vB, rA, rB, uA, uB, _, _, rfl, .inl ((nA'.later bB).mono hz4), nB'.mono HBA.size, by omega, iA, iB, g3.out, g4, g5, HBZ⟩
    · go_wp2_with fail
      have hSt : Steps (w3.alloc (.cells #[.int .u64 px, .int .u64 qx, .int .u64 py, .int .u64 qy, .bool true] 156)) w3.heap.size px qx py qy true := ⟨Array.getElem?_push_size⟩
      have HB4 : Below w.heap.size w (w3.alloc (.cells #[.int .u64 px, .int .u64 qx, .int .u64 py, .int .u64 qy, .bool true] 156)).drew := (HB3.alloc HB3.size _).drew
      obtain ⟨g1, g2, g3', g4, g5⟩ := HF.out.odd_out HX.out HY.out a0 a1 a0' a1' hq
      generalize w3.alloc (.cells #[.int .u64 px, .int .u64 qx, .int .u64 py, .int .u64 qy, .bool true] 156) = W at *
      generalize w3.heap.size = g at *
      obtain ⟨c0, c1, c2, c3, c4⟩ := hSt.cells
      have hz4 := HB4.size
      have g3 := (show Hid _ from g3')
      clear g3' hcell tD c4
      have mark0 : True := trivial
      have mark1 : True := trivial
      go_region_held3 (fun w' => w'.cell? ⟨g, 0, none⟩ = some (.int .u64 px) ∧ w'.cell? ⟨g, 1, none⟩ = some (.int .u64 qx) ∧ w'.cell? ⟨g, 2, none⟩ = some (.int .u64 py) ∧ w'.cell? ⟨g, 3, none⟩ = some (.int .u64 qy)) (first | exact ⟨by assumption, by assumption, by assumption, by assumption⟩ | go_keep)
        (first
        | (go_at_call 150; clear mark0; refine (tY _ HB4 qx px (by omega) (by omega) (by omega) (by omega) (by omega)).mono ?_; rintro e wA ⟨vA, rA, rfl, nA, iA, bA⟩; obtain ⟨c0, c1, c2, c3, c4⟩ := (hSt.drew.keep bA).cells; clear c4; have HBA := HB4.trans (bA.mono hz4))
        | (go_at_call 150; clear mark1; refine (tX _ HBA py qy (by omega) (by omega) (by omega) (by omega) (by omega)).mono ?_; rintro e wZ ⟨vB, rB, rfl, nB, iB, bB⟩; obtain ⟨c0, c1, c2, c3, c4⟩ := ((hSt.drew.keep bA).keep bB).cells; clear c4; have HBZ := HBA.trans (bB.mono HBA.size)))
      go_wp2
      go_ret2
      obtain ⟨uA, nA'⟩ := nA.b
      obtain ⟨uB, nB'⟩ := nB.b
      have hlA : uA < wA.heap.size := nA'.lt.resolve_left (ne_nil_of_pos iA (by have := val_nonneg iB.1; have := iB.2.2; omega))
      have hgB := nB'.ge
      exact ⟨vA, vB, rA, rB, uA, uB, _, _, rfl, .inl ((nA'.later bB).mono hz4), nB'.mono HBA.size, by omega, iA, iB, g3.out, g4, g5, HBZ⟩
end
section
open Go.RowKit Lim
def memVal (w:World):Value->Int
 | .slice (some a) n _=>val ((List.range n).map fun i=>intOf ((w.cell? ⟨a.block,a.off + i,none⟩).getD undef))
 | _=>0
theorem memVal_at {w:World} {ao:Option Addr} {b o c:Nat} {l:List Int} (h:At w ao b o l):memVal w (.slice ao l.length c)=val l:=by
 rcases h.loc with e | e
 ·subst e; cases ao<;>simp [memVal,val]
 ·subst e
  have e:((List.range l.length).map fun i=>intOf ((w.cell? ⟨b,o + i,none⟩).getD undef))=l:=by
   refine nth_ext (by rw [List.length_map,List.length_range]) fun i hi => ?_
   rw [List.length_map,List.length_range] at hi
   rw [nth_eq (by rw [List.length_map,List.length_range]; exact hi)]
   simp [h.cell i hi,intOf]
  show val _=val l
  rw [e]
def gcdMu (v:Value) (w:World):Nat:=(memVal w v).toNat
theorem isN_len_le {a b:List Int} {x y:Int} (ha:IsN a x) (hb:IsN b y) (h:x<=y):a.length<=b.length:=by
 rcases Nat.lt_or_ge b.length a.length with k | k
 ·have:=val_lt_of_nlen_lt hb.1 ha.1 (by rw [ha.2.1,hb.2.1]; exact k)
  rw [ha.2.2,hb.2.2] at this; omega
 ·exact k
structure GcdIn (w:World) (X Y:Int) (N:Nat) (tx ty:Value) (wr:World):Prop where
 ex:∃ lx ly bx by',NewN w wr tx bx lx/\NewN w wr ty by' ly/\bx≠by'/\IsN lx (val lx)/\IsN ly (val ly)/\val ly<=val lx/\Int.gcd (val lx) (val ly)=Int.gcd X Y/\lx.length<=N/\ly.length<=N/\Below w.heap.size w wr
structure GcdEnd (w:World) (e:Ending) (w':World) (X Y:Int) (N:Nat):Prop where
 ex:∃ v r,e=.returned v/\NewV w w' v r/\IsN r (Int.gcd X Y:Nat)/\r.length<=N + 1/\Below w.heap.size w w'
theorem Row.newN {w w':World} {g:Nat} {l:List Int} (h:Row w' g l) (hg:w.heap.size<=g) (n:Nat) (hn:l.length=n):NewN w w' (.slice (some ⟨g,0,none⟩) n n) g l :=
 ⟨_,0,n,by rw [hn],by omega,hg,h.at,h.free _ _⟩
theorem gcd_any (ao:Option Addr) (n c b o:Nat) (ao':Option Addr) (n' c' b' o':Nat) (l l':List Int) (w:World) (hl:l.length=n) (hl':l'.length=n') (hc:n<=c) (hc':n'<=c') (hbig:n<=274877906944) (hbig':n'<=274877906944)
  (wl:Words l) (wl':Words l') (ha:At w ao b o l) (ha':At w ao' b' o' l') :
  Calls Tryz.prog 109 #[.slice ao n c,.slice ao' n' c'] w fun e w'=>GcdEnd w e w' (val l) (val l') (n + n'):=by
 have hn:=nlen_le l
 have hn':=nlen_le l'
 have hnl:=norm_length l
 have hnl':=norm_length l'
 have hI:=isN_norm wl
 have hI':=isN_norm wl'
 go_enter Tryz.func109,Tryz.ntmps109
 go_wp2_with fail
 refine (norm_any ao n c b o l w hl hc (by omega) ha).mono ?_
 rintro e w1 ⟨rfl,hr1,hb1⟩
 go_wp2_with fail
 refine (norm_any ao' n' c' b' o' l' w1 hl' hc' (by omega) (ha'.keep hb1)).mono ?_
 rintro e w2 ⟨rfl,hr2,hb2⟩
 have hr1':=hr1.keep hb2
 have hz1:=hb1.size
 have hz2:=hb2.size
 have hlt1:=hr1.lt
 have hlt2:=hr2.lt
 have t1:=cmp_any (some ⟨w.heap.size,0,none⟩) (nlen l) (nlen l) w.heap.size 0 (some ⟨w1.heap.size,0,none⟩) (nlen l') (nlen l') w1.heap.size 0 (norm l) (norm l') w2 hnl hnl' (Nat.le_refl _) (Nat.le_refl _) (by omega) (by omega) hI.1 hI'.1 hr1'.at hr2.at
 rw [val_norm,val_norm] at t1
 have HB:=hb1.trans (hb2.mono hz1)
 have N1:=hr1'.newN (w:=w) (Nat.le_refl _) _ hnl
 have N2:=hr2.newN (w:=w) hz1 _ hnl'
 have HV1:=(show Hid _ from hI.2.2)
 have HV2:=(show Hid _ from hI'.2.2)
 clear hr1 hr2 hr1' hb1 hb2 ha ha'
 generalize nlen l=A at *
 generalize nlen l'=A' at *
 generalize norm l=L at *
 generalize norm l'=L' at *
 have hJ:IsN L (val L):=⟨hI.1,hI.2.1,rfl⟩
 have hJ':IsN L' (val L'):=⟨hI'.1,hI'.2.1,rfl⟩
 clear hI hI'
 have hgne:w.heap.size≠w1.heap.size:=by omega
 rcases Int.lt_or_le (val l) (val l') with hlt | hge
 rw [sgn_lt hlt] at t1
 have hat:∀ w3,Below w2.heap.size w2 w3->GcdIn w (val l) (val l') (n + n') (.slice (some ⟨w1.heap.size,0,none⟩) A' A') (.slice (some ⟨w.heap.size,0,none⟩) A A) w3:=fun w3 hb=>⟨L',L,_,_,N2.later hb,N1.later hb,hgne.symm,hJ',hJ,by rw [HV1.out,HV2.out]; omega,by rw [HV1.out,HV2.out,Int.gcd_comm],by omega,by omega,HB.trans (hb.mono HB.size)⟩
 rotate_left
 have hsg:sgn (val l) (val l') >= 0:=by unfold sgn; split<;>(try split)<;>omega
 generalize sgn (val l) (val l')=sg at *
 have hat:∀ w3,Below w2.heap.size w2 w3->GcdIn w (val l) (val l') (n + n') (.slice (some ⟨w.heap.size,0,none⟩) A A) (.slice (some ⟨w1.heap.size,0,none⟩) A' A') w3:=fun w3 hb=>⟨L,L',_,_,N1.later hb,N2.later hb,hgne,hJ,hJ',by rw [HV1.out,HV2.out]; omega,by rw [HV1.out,HV2.out],by omega,by omega,HB.trans (hb.mono HB.size)⟩
 all_goals
  clear hJ hJ' N1 N2 HV1 HV2
  go_wp2_with fail
  refine t1.mono ?_
  rintro e w3 ⟨rfl,hb3⟩
  replace hat:=hat w3 hb3
  clear t1
  go_wp2_with fail
  go_loopw [5,6] (fun tx ty wr=>GcdIn w (val l) (val l') (n + n') tx ty wr) (fun _ ty wr=>gcdMu ty wr)
  case atStart=>exact hat
  case round =>
   clear hat
   obtain ⟨lx,ly,bx,by',NX,NY,hbne,iX,iY,hle,hg,hlx,hly,hB⟩:=hrel.ex
   obtain ⟨ax,ox,cx,rfl,kx,gx,atX,frX⟩:=NX.is
   obtain ⟨ay,oy,cy,rfl,ky,gy,atY,frY⟩:=NY.is
   have HG:=(show Hid _ from hg)
   have hBs:=hB.size
   clear hg hrel
   by_cases h1:1 < ly.length
   ·have ts:=shrink_any ax lx.length cx bx ox ay ly.length cy by' oy lx ly wr rfl rfl kx ky (by omega) (by omega) iX iY atX atY hle h1
    have hmu:=memVal_at (c:=cy) atY
    have HM:=(show Hid _ from hmu)
    have HNY:=(show Hid _ from NY)
    clear atX atY NX hmu NY
    generalize hLX:lx.length=nx at *
    generalize hLY:ly.length=ny at *
    go_wp2_with fail
    refine ts.mono ?_
    rintro e w5 hp
    obtain ⟨v1,v2,r1,r2,b1,b2,X',Y',rfl,hv1,hv2,hne,i1,i2,hg2,hlt2,hle2,hb5⟩:=hp.ex
    have hB5:=hB.trans (hb5.mono hB.size)
    have hr1:=isN_len_le i1 iY hle2
    have hr2:=isN_len_le i2 iY (by omega)
    have hM2:gcdMu v2 w5 < gcdMu (.slice ay ny cy) wr:=by
     obtain ⟨a2,o2,c2,rfl,-,-,at2,-⟩:=hv2.is
     unfold gcdMu
     rw [memVal_at at2,i2.2.2,HM.out]
     have:=val_nonneg i2.1
     rw [i2.2.2] at this
     omega
    have hN1:NewN w w5 v1 b1 r1:=by
     rcases hv1 with h | ⟨rfl,rfl,rfl⟩
     ·exact h.mono hB.size
     ·exact HNY.out.later hb5
    have hin:GcdIn w (val l) (val l') (n + n') v1 v2 w5:=⟨r1,r2,b1,b2,hN1,hv2.mono hB.size,hne,by rw [i1.2.2]; exact i1,by rw [i2.2.2]; exact i2,by rw [i1.2.2,i2.2.2]; omega,by rw [i1.2.2,i2.2.2,hg2]; exact HG.out,by omega,by omega,hB5⟩
    clear hv1 hv2 hg2 hp HG HM HNY ts iX iY hN1 i1 i2
    go_wp2
    exact ⟨hin,hM2⟩
   ·by_cases h0:ly.length=0
    ·have e0:ly=[]:=List.eq_nil_of_length_eq_zero h0
     subst e0
     have hv:val lx=(Int.gcd (val l) (val l'):Nat):=by
      have:=HG.out
      rw [show val []=0 from rfl,Int.gcd_zero_right] at this
      have:=val_nonneg iX.1
      omega
     rw [hv] at iX
     go_wp2
     go_ret
     exact ⟨_,lx,rfl,NX.v,iX,by omega,hB⟩
    ·have h01:ly.length=1:=by omega
     obtain ⟨d,rfl⟩:=List.length_eq_one_iff.1 h01
     have hdw:=iY.1 d (by simp)
     have hd0:0 < d:=by
      have h2:=iY.2.1
      by_cases c:d=0
      ·subst c; simp [nlen] at h2
      ·omega
     have HV:Hid (val [d]=d):=val_single d
     obtain rfl:ay=some ⟨by',oy,none⟩:=by
      rcases atY.loc with e | e
      ·simp at e
      ·exact e
     have hcd:=atY.cell 0 (by simp)
     rw [nth_zero,Nat.add_zero] at hcd
     have hcd1:wr.drew.cell? ⟨by',oy,none⟩=some (.int .u64 d):=hcd
     have tD:=divideSmall_any ax bx ox lx.length cx d lx wr.drew rfl (by omega) kx hd0 hdw.2 iX.1 atX.drew frX.drew
     have HX:=(show Hid _ from iX)
     have hnx:lx.length<=n + n':=hlx
     have hv0:=val_nonneg iX.1
     have HVX:=(show Hid (0<=val lx) from hv0)
     clear atX atY NX NY iX iY frX frY hle hv0 hlx
     generalize hLX:lx.length=nx at *
     clear hLX
     go_wp2_with fail
     go_region_with (first
      | (go_at_call 131; refine tD.mono ?_; rintro e w4 ⟨left,lz,rfl,hf0,hf1,hlz,hwz,hatz,hwr,hvz⟩; have hcd4:=(hwr.other (k:=by') (i:=oy) hbne.symm).trans hcd1)
      | (go_at_call 130; refine (gcdSmall_any d left _ (by omega) (by omega) hf0 (by omega)).mono ?_; rintro e w5 ⟨rfl,nd,rfl⟩)
      | (go_at_call 38; refine (of_any _ _ (by omega) (gcd_bound d left hd0 hdw.2)).mono ?_; rintro e w6 ⟨v,r,rfl,hnew,hI6,hlen6,hb6⟩))
     all_goals go_wp2
     all_goals go_ret
     all_goals
      have hleft:left=val lx % d:=by
       have hh:=Int.ediv_emod_unique (a:=val lx) (b:=d) (r:=left) (q:=Lim.val lz) hd0
       exact (hh.2 ⟨by rw [<- hvz,Int.mul_comm]; omega,hf0,hf1⟩).2.symm
      have hwz4:=hwr.size
      have hsz4:w.heap.size<=(w4.drewN nd).heap.size:=by
       show w.heap.size<=w4.heap.size
       have:wr.drew.heap.size=wr.heap.size:=rfl
       omega
      have HBz:Below w.heap.size w w6:=(below_drewN ((hB.drew).trans (hwr.below gx)) nd).trans (hb6.mono hsz4)
      refine ⟨v,r,rfl,hnew.mono hsz4,?_,by omega,HBz⟩
      rw [gcd_one HVX.out hd0 HV.out hleft,HG.out] at hI6
      exact hI6
end
section
open Go.RowKit Lim
theorem nGcd {w:World} {ao ao':Option Addr} {n c n' c':Nat} {x y:Int} (h:NatA w ao n c x) (h':NatA w ao' n' c' y) (hn:n<=274877906944) (hn':n'<=274877906944) :
  Calls Tryz.prog 109 #[.slice ao n c,.slice ao' n' c'] w fun e w'=>∃ a k d,e=.returned (.slice a k d)/\NatO w' a k d (Int.gcd x y:Nat)/\k<=n + n' + 1/\Below w.heap.size w w':=by
 obtain ⟨b,o,l,h1,h2,h3,h4,rfl⟩:=h.ex
 obtain ⟨b',o',l',h1',h2',h3',h4',rfl⟩:=h'.ex
 refine (gcd_any ao n c b o ao' n' c' b' o' l l' w h1 h1' h2 h2' hn hn' h3 h3' h4 h4').mono ?_
 rintro e w' hg
 obtain ⟨v,r,rfl,hnw,hI,hlen,hB⟩:=hg.ex
 obtain ⟨a,d,rfl,hO⟩:=hnw.o hI
 exact ⟨a,_,d,rfl,hO,hlen,hB⟩
end
section
open Go.RowKit Lim
end
section
open Go.RowKit Lim
end
section
open Go.RowKit Lim
theorem cell_new (w:World) (cs:Array Value) (t:TypeId) (i:Nat):(w.alloc (.cells cs t)).cell? ⟨w.heap.size,i,none⟩=cs[i]? := by
 have h:(w.alloc (.cells cs t)).heap[w.heap.size]? = some (.cells cs t (0,0)):=by
  show (w.heap.push _)[w.heap.size]? = _
  rw [Array.getElem?_push_size]
 simp only [World.cell?,h]
 simp
def IsRow (w:World) (a:Option Addr) (len cap:Nat) (zs:List Int):Prop :=
 (a=none/\len=0/\cap=0/\zs=[]) \/
 ∃ x,a=some x/\len<=cap/\cap<=maxLen/\zs.length=cap/\(∀ i,i < zs.length->w.cell? (x.add i)=some (.int .u64 (zs.getD i 0)))/\∀ n∈zs,(Lit.int .u64 n).wf=true
theorem IsRow.open {w:World} {a:Option Addr} {len cap:Nat} {zs:List Int} (h:IsRow w a len cap zs):∃ b o l,l.length=len/\len<=cap/\len<=9223372036854775807/\Words l/\At w a b o l:=by
 rcases h with ⟨rfl,rfl,rfl,rfl⟩ | ⟨x,rfl,h1,h2,h3,h4,h5⟩
 ·exact ⟨0,0,[],rfl,Nat.le_refl _,by decide,Words.nil,.inl rfl,fun i hi=>by simp at hi⟩
 ·have hw:Words (zs.take len):=fun y hy=>by
   have:=h5 y (List.mem_of_mem_take hy)
   have:=bounds_u64 this
   omega
  have hl:(zs.take len).length=len:=by simp; omega
  have hmx:len<=9223372036854775807:=by unfold maxLen at h2; omega
  by_cases h0:len=0
  ·refine ⟨0,0,zs.take len,hl,h1,hmx,hw,.inl (List.eq_nil_of_length_eq_zero (by omega)),fun i hi=>by omega⟩
  ·have hx:=h4 0 (by omega)
   have hsp:x.spot=none:=by
    rw [show x.add 0=x from rfl] at hx
    simp only [World.cell?] at hx
    cases hh:w.heap[x.block]? with
    | none=>rw [hh] at hx; simp at hx
    | some ob =>
     rw [hh] at hx
     cases ob with
     | cells c e f =>
      simp at hx
      cases hs:x.spot with
      | none=>rfl
      | some s=>rw [hs] at hx; simp at hx
     | _=>simp at hx
   obtain ⟨b,o,sp⟩:=x
   simp at hsp
   subst hsp
   refine ⟨b,o,zs.take len,hl,h1,hmx,hw,.inr rfl,fun i hi => ?_⟩
   have h6:=h4 i (by omega)
   rw [nth_take (by omega)]
   have e:(⟨b,o,none⟩:Addr).add i=⟨b,o + i,none⟩:=by
    by_cases hi0:i=0
    ·subst hi0; rfl
    ·simp [Addr.add,hi0]
   rw [e] at h6
   exact h6
end
section
open Go.RowKit Lim
end
section
open Go.RowKit Lim
theorem own_ge {w:World} {B:Nat} {e:TypeId} {v:Value} {n:Nat} {xs:List Value} (h:w.ownsRow B e 1 v n xs):∀ g,v.ownBlock=some g->B<=g:=by
 intro g hg
 rcases h.2 with ⟨rfl,_⟩ | ⟨g',cap,cur,rfl,hB,_⟩
 ·simp [Value.ownBlock] at hg
 ·simp [Value.ownBlock] at hg; omega
end
section
open Go.RowKit Lim
theorem two_new (w:World) (u1 u2:Value):∀ j u,[u1,u2][j]? = some u->(w.alloc (.cells #[u1,u2] 31)).cell? ((⟨w.heap.size,0,none⟩:Addr).add j)=some u:=by
 intro j u hj
 match j,hj with
 | 0,hj =>
  rw [show ((⟨w.heap.size,0,none⟩:Addr).add 0)=⟨w.heap.size,0,none⟩ from rfl,cell_new]
  simpa using hj
 | 1,hj =>
  rw [show ((⟨w.heap.size,0,none⟩:Addr).add 1)=⟨w.heap.size,1,none⟩ from by simp [Addr.add],cell_new]
  simpa using hj
end
end Go.Proofs.YtlbndpkdkdgggaaGreatDoor
