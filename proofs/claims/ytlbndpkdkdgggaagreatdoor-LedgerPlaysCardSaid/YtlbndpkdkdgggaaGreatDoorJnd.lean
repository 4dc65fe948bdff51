/- Several texts, joined: RefQ, RefG. -/
import Derived.Test.YtlbndpkdkdgggaaGreatDoorJnc
import Derived.RegionTactic
set_option maxRecDepth 100000
set_option maxHeartbeats 8000000
namespace Go.Proofs.YtlbndpkdkdgggaaGreatDoor
section
open Go.RowKit Lim
structure ScaInv (y lz:List Int) (k:Int) (n j:Nat) (c:Int):Prop where
 len:lz.length=n
 dig:Dig32 lz
 c0:0<=c
 c1:c < 4294967296
 val:v32 (lz.take j) + 4294967296 ^ j * c=v32 (y.take j) * k
theorem ScaInv.step {y lz:List Int} {k c s:Int} {n j:Nat} (h:ScaInv y lz k n j c) (hn:j < n) (hk:0<=k/\k < 4294967296) (hy:Dig32 y) (hs:s=nth y j * k + c) :
  ScaInv y (lz.set j (s % 4294967296)) k n (j + 1) (s / 4294967296):=by
 have hl:=h.len
 have hr:=row_room (a:=0) (by decide) (hy.nth j) hk ⟨h.c0,h.c1⟩
 rw [Int.zero_add,<- hs] at hr
 refine ⟨by simp [hl],h.dig.set _ (by omega) (by omega),by omega,by omega,?_⟩
 have h5:=h.val
 have e:s=4294967296 * (s / 4294967296) + s % 4294967296:=(Int.mul_ediv_add_emod s 4294967296).symm
 rw [v32_take_set (by omega),v32_take_succ,Int.pow_succ]
 generalize s / 4294967296=q at *
 generalize s % 4294967296=r at *
 have e2:(4294967296:Int) ^ j * (4294967296 * q + r)=4294967296 ^ j * (nth y j * k + c):=by rw [<- e,hs]
 grind
theorem ScaInv.fin {y lz:List Int} {k c:Int} {n:Nat} (h:ScaInv y lz k (n + 1) n c) (hy:y.length=n):Dig32 (lz.set n c)/\v32 (lz.set n c)=v32 y * k:=by
 have hl:=h.len
 refine ⟨h.dig.set _ h.c0 h.c1,?_⟩
 have h5:=h.val
 have e:=v32_take_set (l:=lz) (k:=n) (by omega) c
 rw [List.take_of_length_le (l:=lz.set n c) (by simp; omega)] at e
 rw [List.take_of_length_le (l:=y) (by omega)] at h5
 rw [e,h5]
theorem rsmall {w:World} {ao:Option Addr} {n c:Nat} {y k:Int} (h:DigO w ao n c y) (hn:n<=549755813888) (hk0:0<=k) (hk1:k < 4294967296) :
  Calls Tryz.prog 146 #[.slice ao n c,.int .u64 k] w fun e w'=>∃ a m d,e=.returned (.slice a m d)/\DigO w' a m d (y * k)/\m<=n + 1/\Below w.heap.size w w':=by
 obtain ⟨b2,o2,l2,hl2,hc2,D2,N2,A2,rfl⟩:=h.ex
 clear h
 have hne2:l2=[]\/b2≠w.heap.size:=by
  rcases A2.lt with e | e
  ·exact .inl e
  ·exact .inr (by omega)
 go_enter Tryz.func146,Tryz.ntmps146
 go_wp2_with (at_make; refine wpList_makeR rfl _ _ rfl (n + 1) (n + 1) _ _ rfl rfl (by omega) (by omega) (Nat.le_refl _) (by omega) ?_; intro w3 hrow hbel hsz)
 have B2:=A2.keep hbel
 clear A2
 have hat0:=hrow.at
 have hfr0:=hrow.free 0 (n + 1)
 clear hrow
 go_loopw [6,7] (fun tc tj wr=>∃ (j:Nat) (c:Int) (lz:List Int),j<=n/\tj=.int .i64 j/\tc=.int .u64 c/\ScaInv l2 lz k (n + 1) j c/\At wr (some ⟨w.heap.size,0,none⟩) w.heap.size 0 lz/\Wr w.heap.size 0 (n + 1) w3 wr) (fun _ tj _=>n - (intOf tj).toNat)
 case atStart=>exact ⟨0,0,_,Nat.zero_le _,rfl,rfl,⟨by simp,dig_zero _,by decide,by decide,by simp [v32]⟩,hat0,Wr.refl _ _ _ _⟩
 case round =>
  clear hat0
  obtain ⟨j,c,lz,hj,rfl,rfl,hinv,hat,hwr⟩:=hrel
  have hlen:=hinv.len
  by_cases hlt2:j < n
  ·rcases B2.loc with e | rfl
   ·subst e; simp at hl2; omega
   have hj0:(j:Int) < n:=by omega
   have hy:=D2.nth j
   have c0:=hinv.c0
   have c1:=hinv.c1
   have hrm:=row_room (a:=0) (by decide) hy ⟨hk0,hk1⟩ ⟨c0,c1⟩
   rw [Int.zero_add] at hrm
   obtain ⟨r1,r2,r3,r4⟩:=hrm
   have q2:=(B2.wr hwr hne2).cell j (by omega)
   have q3:=hat.cell j (by omega)
   have hfr:=hwr.free hfr0 j (by omega)
   rw [Nat.zero_add] at q3 hfr
   have HS:=(show Hid _ from hinv.step (by omega) ⟨hk0,hk1⟩ D2 rfl)
   have hand:=and32 (nth l2 j * k + c) r3 r4
   have HA:=(show Hid _ from hat)
   have HW:=(show Hid _ from hwr)
   clear hinv hat hwr B2 hne2 hfr0 D2 N2 hl2
   generalize nth l2 j=g2 at *
   go_wp2
   all_goals exact ⟨⟨j + 1,_,_,by omega,by go_num,rfl,HS.out,HA.out.set0 (by omega) _,HW.out.setCell (by omega) (by omega) _⟩,by simp [intOf]; omega⟩
  ·have hjk:j=n:=by omega
   subst hjk
   have hfr:=hwr.free hfr0 j (by omega)
   have q3:=hat.cell j (by omega)
   rw [Nat.zero_add] at q3 hfr
   obtain ⟨f1,f2⟩:=hinv.fin hl2
   have hA2:=hat.set0 (i:=j) (by omega) c
   have hb3:Below w.heap.size w (wr.setCell ⟨w.heap.size,j,none⟩ (.int .u64 c)):=hbel.trans ((hwr.setCell (i:=j) (by omega) (by omega) (.int .u64 c)).below (Nat.le_refl _))
   have t:=refTrim_any (some ⟨w.heap.size,0,none⟩) (j + 1) (j + 1) (lz.set j c) (wr.setCell ⟨w.heap.size,j,none⟩ (.int .u64 c)) (by simp [hlen]) (Nat.le_refl _) (by omega) hA2.cells
   have HO:DigO (wr.setCell ⟨w.heap.size,j,none⟩ (.int .u64 c)) (some ⟨w.heap.size,0,none⟩) (nlen (lz.set j c)) (j + 1) (v32 l2 * k):=⟨_,0,norm (lz.set j c),norm_length _,by have:=nlen_le (lz.set j c); simp [hlen] at this; omega,f1.take _,nlen_norm _,hA2.sub _,by rw [v32_norm,f2]⟩
   have hle2:=nlen_le (lz.set j c)
   rw [List.length_set,hlen] at hle2
   clear hinv hat hwr B2 hne2 hfr0 D2 N2 hl2 hA2 f1 f2 hbel
   generalize nlen (lz.set j c)=m at *
   go_wp2_with fail
   refine t.mono ?_
   rintro e w5 ⟨rfl,rfl⟩
   go_wp2
   go_ret
   exact ⟨_,m,j + 1,rfl,HO,by omega,hb3⟩
theorem guess_lo {R Y P t d q:Int} (hP:0 < P) (hd:0<=d) (hq:q=R / Y) (hY:0 < Y) (h1:t * P<=R) (h2:Y < (d + 1) * P) (ht:0<=t):t / (d + 1)<=q:=by
 have hg:t / (d + 1) * (d + 1)<=t:=Int.ediv_mul_le _ (by omega)
 have h0:0<=t / (d + 1):=Int.ediv_nonneg ht (by omega)
 subst hq
 refine (Int.le_ediv_iff_mul_le hY).2 ?_
 have e1:t / (d + 1) * Y<=t / (d + 1) * ((d + 1) * P):=Int.mul_le_mul_of_nonneg_left (by omega) h0
 have e2:t / (d + 1) * (d + 1) * P<=t * P:=Int.mul_le_mul_of_nonneg_right hg (by omega)
 rw [Int.mul_assoc] at e2
 omega
theorem guess_hi {R Y P t d q:Int} (hP:0 < P) (hd:0 < d) (hq:q=R / Y) (hY:0 < Y) (hR:0<=R) (h1:R < (t + 1) * P) (h2:d * P<=Y):q<=t / d:=by
 have h0:0<=q:=by rw [hq]; exact Int.ediv_nonneg hR (by omega)
 have hm:q * Y<=R:=by rw [hq]; exact Int.ediv_mul_le _ (by omega)
 refine (Int.le_ediv_iff_mul_le hd).2 ?_
 have e1:q * (d * P)<=q * Y:=Int.mul_le_mul_of_nonneg_left h2 h0
 rw [<- Int.mul_assoc] at e1
 have e2:q * d * P < (t + 1) * P:=by omega
 have:=Int.lt_of_mul_lt_mul_right e2 (by omega)
 omega
theorem topA {l:List Int} (h:Dig32 l) (h0:0 < l.length):nth l (l.length - 1) * 4294967296 ^ (l.length - 1)<=v32 l/\v32 l < (nth l (l.length - 1) + 1) * 4294967296 ^ (l.length - 1):=by
 have hsp:=v32_take_succ l (l.length - 1)
 rw [show l.length - 1 + 1=l.length from by omega,List.take_of_length_le (Nat.le_refl _)] at hsp
 have hb:=v32_bound (h.take (l.length - 1))
 rw [List.length_take,Nat.min_eq_left (by omega)] at hb
 rw [hsp]
 generalize (4294967296:Int) ^ (l.length - 1)=P at *
 rw [Int.add_mul,Int.mul_comm P]
 omega
theorem topB {l:List Int} (h:Dig32 l) (h0:1 < l.length):(nth l (l.length - 1) * 4294967296 + nth l (l.length - 2)) * 4294967296 ^ (l.length - 2)<=v32 l/\v32 l < (nth l (l.length - 1) * 4294967296 + nth l (l.length - 2) + 1) * 4294967296 ^ (l.length - 2):=by
 have hsp:=v32_take_succ l (l.length - 1)
 have hsq:=v32_take_succ l (l.length - 2)
 rw [show l.length - 1 + 1=l.length from by omega,List.take_of_length_le (Nat.le_refl _),show l.length - 1=l.length - 2 + 1 from by omega,hsq,Int.pow_succ,show l.length - 2 + 1=l.length - 1 from by omega] at hsp
 have hb:=v32_bound (h.take (l.length - 2))
 rw [List.length_take,Nat.min_eq_left (by omega)] at hb
 generalize (4294967296:Int) ^ (l.length - 2)=P at *
 generalize nth l (l.length - 1)=t1 at *
 generalize nth l (l.length - 2)=t2 at *
 have e1:(t1 * 4294967296 + t2) * P=P * t2 + P * 4294967296 * t1:=by grind
 have e2:(t1 * 4294967296 + t2 + 1) * P=P * t2 + P * 4294967296 * t1 + P:=by grind
 rw [e1,e2]
 omega
end
section
open Go.RowKit Lim
theorem shl_or32 (a b:Int) (ha:0<=a/\a < 4294967296) (hb:0<=b/\b < 4294967296):bits .or .u64 (a * 4294967296) b=a * 4294967296 + b:=by
 have e:(2:Int) ^ 32=4294967296:=by decide
 exact or_add (a * 4294967296) b 32 a (by rw [e]) ha.1 (by omega) hb.1 (by omega) (by omega)
theorem digit_le {R Y:Int} (hY:0 < Y) (hR:R < 4294967296 * Y):R / Y<=4294967295:=by
 have:=Int.ediv_lt_of_lt_mul hY hR
 omega
theorem digits_len {l l':List Int} (h:Dig32 l) (h':Dig32 l') (hn:nlen l=l.length) (hR:v32 l < 4294967296 * v32 l'):l.length<=l'.length + 1:=by
 rcases Nat.lt_or_ge (l'.length + 1) l.length with e | e
 ·have h1:=nlen_last (l:=l) (by omega)
  rw [hn] at h1
  have h2:=v32_ge h (by omega) h1
  have h3:=v32_bound h'
  have h4:=pow32_mono (show l'.length + 1<=l.length - 1 by omega)
  rw [Int.pow_succ] at h4
  omega
 ·exact e
theorem rguess {w:World} {ao ao':Option Addr} {n c n' c':Nat} {R Y:Int} (h:DigO w ao n c R) (h':DigO w ao' n' c' Y) (hn:n<=1099511627776) (hn':n'<=1099511627776) (hY:0 < Y) (hR:R < 4294967296 * Y) :
  Calls Tryz.prog 145 #[.slice ao n c,.slice ao' n' c'] w fun e w'=>∃ lo hi,e=.returned (.tuple #[.int .u64 lo,.int .u64 hi])/\0<=lo/\lo<=R / Y/\R / Y<=hi/\hi<=4294967295/\Below w.heap.size w w':=by
 obtain ⟨b1,o1,l1,hl1,hc1,D1,N1,A1,rfl⟩:=h.ex
 obtain ⟨b2,o2,l2,hl2,hc2,D2,N2,A2,rfl⟩:=h'.ex
 clear h h'
 have hq1:=digit_le hY hR
 have hln:=digits_len D1 D2 N1 hR
 have hR0:=(v32_bound D1).1
 have hq0:0<=v32 l1 / v32 l2:=Int.ediv_nonneg hR0 (by omega)
 have hn1:0 < n':=by
  rcases Nat.eq_zero_or_pos n' with e | e
  ·subst e
   obtain rfl:l2=[]:=List.eq_nil_of_length_eq_zero hl2
   simp [v32] at hY
  ·exact e
 have hy:=D2.nth (n' - 1)
 have hy0:=nlen_last (l:=l2) (by omega)
 rw [N2,hl2] at hy0
 obtain ⟨s1,s2⟩:=topA D2 (by omega)
 rw [hl2] at s1 s2
 rcases A2.loc with e | rfl
 ·subst e; simp at hl2; omega
 have q2:=A2.cell (n' - 1) (by omega)
 have q2':w.cell? ⟨b2,o2 + n' - 1,none⟩=some (.int .u64 (nth l2 (n' - 1))):=by rw [<- q2]; congr 2; omega
 by_cases hlt:n < n'
 ·have hlt2:=v32_len D1 D2 N2 (by omega)
  have hq:v32 l1 / v32 l2=0:=Int.ediv_eq_zero_of_lt hR0 hlt2
  have HQ:=(show Hid _ from hq)
  clear hq
  have hlt':(n:Int) < n':=by omega
  go_enter Tryz.func145,Tryz.ntmps145
  go_wp2
  go_ret2
  exact ⟨0,0,rfl,by decide,by omega,by rw [HQ.out]; decide,by decide,Below.refl _ _⟩
 ·rcases A1.loc with e | rfl
  ·subst e; simp at hl1; omega
  have hx:=D1.nth (n - 1)
  have q1:=A1.cell (n - 1) (by omega)
  have q1':w.cell? ⟨b1,o1 + n - 1,none⟩=some (.int .u64 (nth l1 (n - 1))):=by rw [<- q1]; congr 2; omega
  by_cases heq:n=n'
  ·subst heq
   obtain ⟨r1,r2⟩:=topA D1 (by omega)
   rw [hl1] at r1 r2
   have g1:=guess_lo (p32_pos (n - 1)) hy.1 rfl hY r1 s2 hx.1
   have g2:=guess_hi (p32_pos (n - 1)) (by omega) rfl hY hR0 r2 s1
   have hy1:0 < nth l2 (n - 1):=by omega
   have g0:0<=nth l1 (n - 1) / (nth l2 (n - 1) + 1):=Int.ediv_nonneg hx.1 (by omega)
   clear r1 r2 s1 s2 A1 A2 D1 D2 N1 N2 hR hY hl1 hl2 hy0 hln
   generalize v32 l1 / v32 l2=q at *
   generalize nth l1 (n - 1)=t at *
   generalize nth l2 (n - 1)=d at *
   go_enter Tryz.func145,Tryz.ntmps145
   go_wp2_with fail
   go_region
   all_goals go_wp2
   all_goals go_ret2
   all_goals exact ⟨_,_,rfl,by omega,by omega,by omega,by omega,rfl,rfl,rfl,Nat.le_refl _,fun _ _=>rfl⟩
  ·obtain rfl:n=n' + 1:=by omega
   obtain ⟨r1,r2⟩:=topB D1 (by omega)
   rw [hl1,show n' + 1 - 2=n' - 1 from by omega,show n' + 1 - 1=n' from by omega] at r1 r2
   have hz:=D1.nth (n' - 1)
   have q3:=A1.cell (n' - 1) (by omega)
   have q3':w.cell? ⟨b1,o1 + (n' + 1) - 2,none⟩=some (.int .u64 (nth l1 (n' - 1))):=by rw [<- q3]; congr 2; omega
   rw [show n' + 1 - 1=n' from by omega] at q1 q1' hx
   have g1:=guess_lo (p32_pos (n' - 1)) hy.1 rfl hY r1 s2 (by omega)
   have g2:=guess_hi (p32_pos (n' - 1)) (by omega) rfl hY hR0 r2 s1
   have hy1:0 < nth l2 (n' - 1):=by omega
   have g0:0<=(nth l1 n' * 4294967296 + nth l1 (n' - 1)) / (nth l2 (n' - 1) + 1):=Int.ediv_nonneg (by omega) (by omega)
   have hor:=shl_or32 (nth l1 n') (nth l1 (n' - 1)) hx hz
   clear r1 r2 s1 s2 A1 A2 D1 D2 N1 N2 hR hY hl1 hl2 hy0 hln
   generalize v32 l1 / v32 l2=q at *
   generalize nth l1 n'=t at *
   generalize nth l1 (n' - 1)=t2 at *
   generalize nth l2 (n' - 1)=d at *
   go_enter Tryz.func145,Tryz.ntmps145
   go_wp2_with fail
   go_region
   all_goals go_wp2
   all_goals go_ret2
   all_goals exact ⟨_,_,rfl,by omega,by omega,by omega,by omega,rfl,rfl,rfl,Nat.le_refl _,fun _ _=>rfl⟩
end
end Go.Proofs.YtlbndpkdkdgggaaGreatDoor
