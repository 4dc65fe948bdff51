/- Several texts, joined: Pg0, LgP. -/
import Derived.Test.YtlbndpkdkdgggaaGreatDoorChecked
import Derived.WalkKit
import Derived.WalkSpells
import Derived.WalkLawsBesides
import Derived.Lib.SliceRun
import Derived.Lib.AppendZerosOnto
import Derived.Lib.Overlaps
import Derived.Lib.Bytealg
import Derived.Lib.JoinLaws
import Derived.Laws.Externs
import Derived.Laws.CopyRow
import Derived.Laws.CopyOwn
import Derived.Laws.Tables
import Derived.Laws.NewBlocks
import Derived.Laws.IdiomCopy
import Derived.Deep.RegionHeld3
import Derived.Deep.RegionLaw
import Derived.Deep.QuietTactic
import Derived.BigQuiet
import Derived.WalkSmall
import Derived.Shelf.RegionOpenPlain
import Derived.OneCell
import Derived.Test.YtlbndpkdkdgggaaGreatDoorJna
set_option maxRecDepth 100000
set_option maxHeartbeats 8000000
namespace Go.Proofs.YtlbndpkdkdgggaaGreatDoor
section
namespace Pg
open Go.RowKit
theorem lt_of_block {w:World} {g:Nat} {o:Obj} (h:w.heap[g]? = some o):g < w.heap.size:=(Array.getElem?_eq_some_iff.1 h).1
structure Blk (w:World) (g:Nat) (cs:List Value) (t:TypeId):Prop where
 blk:w.heap[g]? = some (.cells cs.toArray t (0,0))
theorem Blk.lt {w:World} {g:Nat} {cs:List Value} {t:TypeId} (h:Blk w g cs t):g < w.heap.size:=lt_of_block h.blk
theorem Blk.cell {w:World} {g:Nat} {cs:List Value} {t:TypeId} (h:Blk w g cs t) {i:Nat} {v:Value} (hi:cs[i]? = some v):w.cell? ⟨g,i,none⟩=some v:=by
 simp only [World.cell?,h.blk]
 simpa using hi
theorem Blk.free {w:World} {g:Nat} {cs:List Value} {t:TypeId} (h:Blk w g cs t) (i:Nat):w.frozen? ⟨g,i,none⟩=false:=by
 simp [World.frozen?,h.blk]
theorem Blk.keep {w w':World} {g:Nat} {cs:List Value} {t:TypeId} (h:Blk w g cs t) (hb:Below w.heap.size w w'):Blk w' g cs t:=⟨by rw [hb.block g h.lt]; exact h.blk⟩
theorem Blk.drew {w:World} {g:Nat} {cs:List Value} {t:TypeId} (h:Blk w g cs t):Blk w.drew g cs t:=⟨h.blk⟩
theorem blk_new (w:World) (cs:List Value) (t:TypeId):Blk (w.alloc (.cells cs.toArray t)) w.heap.size cs t:=⟨by
 show (w.heap.push _)[w.heap.size]? = _
 rw [Array.getElem?_push_size]⟩
theorem Blk.row {w:World} {g:Nat} {cs:List Value} (ds:List Value) {t:TypeId} (h:Blk w g cs t):Blk (w.setRow g ds.toArray) g ds t:=⟨by rw [setRow_heap w g _ _ _ _ h.blk]⟩
theorem Blk.same {w w':World} {g:Nat} {cs:List Value} {t:TypeId} (h:Blk w g cs t) (hb:w'.heap[g]? = w.heap[g]?):Blk w' g cs t:=⟨by rw [hb]; exact h.blk⟩
theorem Blk.setCell {w:World} {g:Nat} {cs:List Value} {t:TypeId} (h:Blk w g cs t) {i:Nat} (v:Value):Blk (w.setCell ⟨g,i,none⟩ v) g (cs.set i v) t:=⟨by
 have:=h.blk
 simp only [World.setCell,Array.getElem?_modify,if_true,this]
 simp⟩
theorem below_alloc (w:World) (o:Obj):Below w.heap.size w (w.alloc o):=(Below.refl _ _).alloc (Nat.le_refl _) _
structure Chg (F:Nat->Prop) (w w':World):Prop where
 os:w'.os=w.os
 tape:w'.tape=w.tape
 output:w'.output=w.output
 size:w.heap.size<=w'.heap.size
 same:∀ b,b < w.heap.size->¬ F b->w'.heap[b]? = w.heap[b]?
theorem Chg.refl (F:Nat->Prop) (w:World):Chg F w w:=⟨rfl,rfl,rfl,Nat.le_refl _,fun _ _ _=>rfl⟩
theorem Chg.of {F:Nat->Prop} {w w':World} (h:Below w.heap.size w w'):Chg F w w':=⟨h.os,h.tape,h.output,h.size,fun b hb _=>h.block b hb⟩
theorem Chg.nothing {w w':World} (h:Chg (fun _=>False) w w'):Below w.heap.size w w':=⟨h.os,h.tape,h.output,h.size,fun b hb=>h.same b hb id⟩
theorem Chg.below {F:Nat->Prop} {B:Nat} {w w':World} (h:Chg F w w') (hF:∀ b,F b->B<=b) (hB:B<=w.heap.size):Below B w w':=⟨h.os,h.tape,h.output,h.size,fun b hb=>h.same b (by omega) fun f=>by have:=hF b f; omega⟩
theorem Chg.trans {F F':Nat->Prop} {w w1 w2:World} (h:Chg F w w1) (h':Chg F' w1 w2) (hF:∀ b,b < w.heap.size->F' b->F b):Chg F w w2 :=
 ⟨h'.os.trans h.os,h'.tape.trans h.tape,h'.output.trans h.output,Nat.le_trans h.size h'.size,fun b hb hf=>(h'.same b (Nat.lt_of_lt_of_le hb h.size) fun f=>hf (hF b hb f)).trans (h.same b hb hf)⟩
theorem Chg.mono {F F':Nat->Prop} {w w1:World} (h:Chg F w w1) (hF:∀ b,b < w.heap.size->F b->F' b):Chg F' w w1:=⟨h.os,h.tape,h.output,h.size,fun b hb hf=>h.same b hb fun f=>hf (hF b hb f)⟩
theorem Chg.drew {F:Nat->Prop} {w w':World} (h:Chg F w w'):Chg F w w'.drew:=⟨h.os,h.tape,h.output,h.size,h.same⟩
theorem Chg.row {F:Nat->Prop} {w w':World} (h:Chg F w w') {g:Nat} (hg:F g\/w.heap.size<=g) (ds:Array Value):Chg F w (w'.setRow g ds) :=
 ⟨h.os,h.tape,h.output,by simpa [World.setRow] using h.size,fun b hb hf=>by
  have hne:b≠g:=fun e=>by subst e; rcases hg with f | f; exact hf f; omega
  exact (setRow_other w' g b ds hne).trans (h.same b hb hf)⟩
theorem Chg.alloc {F:Nat->Prop} {w w':World} (h:Chg F w w') (o:Obj):Chg F w (w'.alloc o):=h.trans (Chg.of (F:=fun _=>False) (below_alloc w' o)) (fun _ _ f=>f.elim)
theorem Blk.chg {F:Nat->Prop} {w w':World} {g:Nat} {cs:List Value} {t:TypeId} (h:Blk w g cs t) (hc:Chg F w w') (hg:¬ F g):Blk w' g cs t:=⟨by rw [hc.same g h.lt hg]; exact h.blk⟩
end Pg
end
section
namespace Lg
theorem cne {b:Int} (h:0 < b):(b:Rat)≠0:=fun e=>by have:=Rat.intCast_eq_zero_iff.1 e; omega
theorem le_fr {a b c d:Int} (hb:0 < b) (hd:0 < d):(a:Rat)/(b:Rat)<=(c:Rat)/(d:Rat)<->a*d<=c*b:=by
 have h1:=Rat.intCast_pos.2 hb
 have h2:=Rat.intCast_pos.2 hd
 have n1:=cne hb
 have n2:=cne hd
 rw [<- Rat.not_lt,<- Rat.mul_lt_mul_right (Rat.mul_pos h1 h2),show (a:Rat)/b*(b*d)=a*d by grind,show (c:Rat)/d*(b*d)=c*b by grind,Rat.not_lt,<- Rat.intCast_le_intCast,Rat.intCast_mul,Rat.intCast_mul]
theorem eq_fr {a b c d:Int} (hb:0 < b) (hd:0 < d):(a:Rat)/(b:Rat)=(c:Rat)/(d:Rat)<->a*d=c*b:=by
 have n1:=cne hb
 have n2:=cne hd
 rw [<- Rat.intCast_inj,Rat.intCast_mul,Rat.intCast_mul]
 constructor<;>intro h<;>grind
theorem self_fr (r:Rat):r=(r.num:Rat) / ((r.den:Int):Rat):=by
 rw [<- Rat.divInt_eq_div,Rat.num_divInt_den]
theorem fr_add {a b c d:Int} (hb:0 < b) (hd:0 < d):(a:Rat)/b + (c:Rat)/d=((a*d+c*b:Int):Rat)/((b*d:Int):Rat):=by
 have n1:=cne hb
 have n2:=cne hd
 simp only [Rat.intCast_mul,Rat.intCast_add]; grind
theorem fr_mul {a b c d:Int} (hb:0 < b) (hd:0 < d):(a:Rat)/b * ((c:Rat)/d)=((a*c:Int):Rat)/((b*d:Int):Rat):=by
 have n1:=cne hb
 have n2:=cne hd
 simp only [Rat.intCast_mul]; grind
theorem fr_div {a b c d:Int} (hb:0 < b) (hd:0 < d) (hc:0 < c):(a:Rat)/b / ((c:Rat)/d)=((a*d:Int):Rat)/((b*c:Int):Rat):=by
 have n1:=cne hb
 have n2:=cne hd
 have n3:=cne hc
 simp only [Rat.intCast_mul]; grind
theorem fr_nn {a b:Int} (ha:0<=a) (hb:0 < b):0<=(a:Rat)/b:=by
 have:=(le_fr (a:=0) (b:=1) (c:=a) (d:=b) (by decide) hb).2 (by omega)
 rwa [show ((0:Int):Rat)/((1:Int):Rat)=0 by decide +kernel] at this
abbrev Ft (r:Rat) (L:Nat):Prop:=r.num < 2 ^ L/\(r.den:Int) < 2 ^ L
theorem den_dvd {p q:Int} (hq:0 < q) {r:Rat} (h:r=(p:Rat) / q):∃ k:Int,0 < k/\q=r.den * k/\p=r.num * k:=by
 have e:r.num * q=p * r.den:=by
  have hd:(0:Int) < r.den:=by have:=r.den_pos; omega
  exact (eq_fr hd hq).1 ((self_fr r).symm.trans h)
 have hdv:(r.den:Int) ∣ q:=by
  have h1:(r.den:Int) ∣ r.num * q:=⟨p,by rw [e,Int.mul_comm]⟩
  have h2:=Int.natAbs_dvd_natAbs.2 h1
  rw [Int.natAbs_mul,Int.natAbs_natCast] at h2
  have h3:=r.reduced.symm.dvd_of_dvd_mul_left h2
  exact Int.natAbs_dvd_natAbs.1 (by rw [Int.natAbs_natCast]; exact h3)
 obtain ⟨k,hk⟩:=hdv
 have hd:(0:Int) < r.den:=by have:=r.den_pos; omega
 have hk0:0 < k:=by
  rcases Int.lt_or_le 0 k with h | h
  ·exact h
  ·have:=Int.mul_le_mul_of_nonneg_left h (Int.le_of_lt hd)
   omega
 refine ⟨k,hk0,hk,?_⟩
 have:p * r.den=r.num * k * r.den:=by rw [<- e,hk]; grind
 exact Int.eq_of_mul_eq_mul_right (by omega) this
theorem ft_of {p q:Int} {r:Rat} {L:Nat} (hq:0 < q) (hp:0<=p) (h:r=(p:Rat) / q) (h1:p < 2 ^ L) (h2:q < 2 ^ L):Ft r L:=by
 obtain ⟨k,hk,e1,e2⟩:=den_dvd hq h
 have hd:(0:Int) < r.den:=by have:=r.den_pos; omega
 have hn:0<=r.num:=by
  rw [Rat.num_nonneg,h]; exact fr_nn hp hq
 constructor
 ·have:=Int.mul_le_mul_of_nonneg_left (show (1:Int)<=k by omega) hn
  omega
 ·have:=Int.mul_le_mul_of_nonneg_left (show (1:Int)<=k by omega) (Int.le_of_lt hd)
  omega
theorem ft_rep {r:Rat} {L:Nat} (h:Ft r L) (h0:0<=r):∃ p q:Int,0<=p/\0 < q/\r=(p:Rat) / q/\p < 2 ^ L/\q < 2 ^ L :=
 ⟨r.num,r.den,Rat.num_nonneg.2 h0,by have:=r.den_pos; omega,self_fr r,h.1,h.2⟩
theorem pw_lt {a b:Int} {m n:Nat} (ha:0<=a) (h1:a < 2 ^ m) (h2:b < 2 ^ n):a * b < 2 ^ (m + n):=by
 rw [Int.pow_add]
 have p1:(0:Int) < 2 ^ m:=Int.pow_pos (by decide)
 have p2:(0:Int) < 2 ^ n:=Int.pow_pos (by decide)
 have h3:=Int.mul_le_mul_of_nonneg_left (Int.le_of_lt h2) ha
 have h4:=Int.mul_lt_mul_of_pos_right h1 p2
 omega
theorem ft_mul {r s:Rat} {m n:Nat} (h:Ft r m) (k:Ft s n) (h0:0<=r) (k0:0<=s):Ft (r * s) (m + n):=by
 obtain ⟨p,q,a1,a2,a3,a4,a5⟩:=ft_rep h h0
 obtain ⟨p',q',b1,b2,b3,b4,b5⟩:=ft_rep k k0
 exact ft_of (Int.mul_pos a2 b2) (Int.mul_nonneg a1 b1) (by rw [a3,b3,fr_mul a2 b2]) (pw_lt a1 a4 b4) (pw_lt (by omega) a5 b5)
theorem ft_add {r s:Rat} {m n:Nat} (h:Ft r m) (k:Ft s n) (h0:0<=r) (k0:0<=s):Ft (r + s) (m + n + 1):=by
 obtain ⟨p,q,a1,a2,a3,a4,a5⟩:=ft_rep h h0
 obtain ⟨p',q',b1,b2,b3,b4,b5⟩:=ft_rep k k0
 have x1:=pw_lt a1 a4 b5
 have x2:=pw_lt b1 b4 a5
 have x3:=pw_lt (Int.le_of_lt a2) a5 b5
 rw [Nat.add_comm n m] at x2
 have x5:(0:Int) < 2 ^ (m + n):=Int.pow_pos (by decide)
 have x4:(2:Int) ^ (m + n + 1)=2 ^ (m + n) * 2:=Int.pow_succ ..
 refine ft_of (Int.mul_pos a2 b2) (Int.add_nonneg (Int.mul_nonneg a1 (Int.le_of_lt b2)) (Int.mul_nonneg b1 (Int.le_of_lt a2))) (by rw [a3,b3,fr_add a2 b2]) (by omega) (by omega)
theorem ft_up {r:Rat} {m n:Nat} (h:Ft r m) (k:m<=n):Ft r n:=by
 have:(2:Int) ^ m<=2 ^ n:=by
  have:=Nat.pow_le_pow_right (n:=2) (by decide) k
  exact_mod_cast this
 exact ⟨by have:=h.1; omega,by have:=h.2; omega⟩
end Lg
end
end Go.Proofs.YtlbndpkdkdgggaaGreatDoor
