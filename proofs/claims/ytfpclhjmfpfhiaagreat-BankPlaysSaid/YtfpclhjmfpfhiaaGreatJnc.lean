/- Several texts, joined: RefC, SmallN, RefS, RefM, RefA, RefO. -/
import Derived.Test.YtfpclhjmfpfhiaaGreatJnb
namespace Go.Proofs.YtfpclhjmfpfhiaaGreat
open Go.RowKit Lim
structure DigO (w:World) (ao:Option Addr) (n c:Nat) (x:Int):Prop where
 ex:∃ b o d,d.length=n/\n<=c/\Dig32 d/\nlen d=d.length/\At w ao b o d/\v32 d=x
theorem DigO.keep {w w':World} {ao:Option Addr} {n c:Nat} {x:Int} (h:DigO w ao n c x) (hb:Below w.heap.size w w'):DigO w' ao n c x:=by
 obtain ⟨b,o,d,h1,h2,h3,h4,h5,h6⟩:=h.ex
 exact ⟨b,o,d,h1,h2,h3,h4,h5.keep hb,h6⟩
theorem rDigits {w:World} {ao:Option Addr} {n c:Nat} {x:Int} (h:NatA w ao n c x) (hn:n<=274877906944) :
  Calls Tryz.prog 71 #[.slice ao n c] w fun e w'=>∃ a k d,e=.returned (.slice a k d)/\DigO w' a k d x/\k<=2 * n/\Below w.heap.size w w':=by
 obtain ⟨b,o,l,h1,h2,h3,h4,rfl⟩:=h.ex
 refine (digits_any ao n c b o l w h1 hn h3 h4).mono ?_
 rintro e w' ⟨v,d,rfl,hnw,hD,hN,hv,hlen,hB⟩
 obtain ⟨ao',b',o',c',e',h5,_,h7,_⟩:=hnw.is
 exact ⟨ao',_,c',by rw [e'],⟨b',o',d,rfl,h5,hD,hN,h7,hv⟩,hlen,hB⟩
end Go.Proofs.YtfpclhjmfpfhiaaGreat
namespace Go.Proofs.YtfpclhjmfpfhiaaGreat
open Go.RowKit Lim
end Go.Proofs.YtfpclhjmfpfhiaaGreat
namespace Go.Proofs.YtfpclhjmfpfhiaaGreat
open Go.RowKit Lim
theorem rNumber {w:World} {ao:Option Addr} {n c:Nat} {x:Int} (h:DigO w ao n c x) (hn:n<=1099511627776) :
  Calls Tryz.prog 72 #[.slice ao n c] w fun e w'=>∃ a k d,e=.returned (.slice a k d)/\NatO w' a k d x/\k<=n/\Below w.heap.size w w':=by
 obtain ⟨b,o,d,h1,h2,h3,h4,h5,rfl⟩:=h.ex
 refine (number_any ao n c b o d w h1 h2 hn h3 h5).mono ?_
 rintro e w' ⟨v,r,rfl,hnw,hI,hlen,hB⟩
 obtain ⟨a,d',rfl,hO⟩:=hnw.o hI
 exact ⟨a,_,d',rfl,hO,hlen,hB⟩
set_option maxHeartbeats 1000000 in
set_option maxRecDepth 100000 in
theorem rNorm {w:World} {ao:Option Addr} {n c:Nat} {x:Int} (h:NatA w ao n c x) (hn:n<=274877906944) :
  Calls Tryz.prog 73 #[.slice ao n c] w fun e w'=>∃ a k d,e=.returned (.slice a k d)/\NatO w' a k d x/\k<=2 * n/\Below w.heap.size w w':=by
 go_enter Tryz.func73,Tryz.ntmps73
 go_wp2_with fail
 refine (rDigits h hn).mono ?_
 rintro e w1 ⟨a1,k1,d1,rfl,O1,hk1,hB⟩
 have HB:=hB
 clear hB
 go_wp2_with fail
 refine (rNumber O1 (by omega)).mono ?_
 rintro e w2 ⟨a2,k2,d2,rfl,O2,hk2,hB⟩
 go_wp2
 go_ret
 exact ⟨a2,k2,d2,rfl,O2,by omega,joinB HB hB⟩
end Go.Proofs.YtfpclhjmfpfhiaaGreat
namespace Go.Proofs.YtfpclhjmfpfhiaaGreat
open Go.RowKit Lim
theorem p32_pos (k:Nat):(0:Int) < 4294967296 ^ k:=Int.pow_pos (by decide)
theorem v32_take_succ (l:List Int) (k:Nat):v32 (l.take (k + 1))=v32 (l.take k) + 4294967296 ^ k * nth l k:=by
 by_cases h:k < l.length
 ·rw [take_succ_nth h,v32_append,List.length_take,Nat.min_eq_left (by omega)]; simp [v32]
 ·rw [List.take_of_length_le (by omega),List.take_of_length_le (by omega),nth_ge (by omega)]; simp
theorem v32_set {l:List Int} {i:Nat} (h:i < l.length) (x:Int):v32 (l.set i x)=v32 l + 4294967296 ^ i * (x - nth l i):=by
 induction l generalizing i with
 | nil=>simp at h
 | cons y l ih =>
  cases i with
  | zero=>simp only [List.set_cons_zero,v32,nth_zero,Int.pow_zero]; omega
  | succ i =>
   rw [List.set_cons_succ,v32,v32,nth_succ,ih (by simpa using h),Int.pow_succ]
   grind
theorem v32_take_set {l:List Int} {k:Nat} (h:k < l.length) (x:Int):v32 ((l.set k x).take (k + 1))=v32 (l.take k) + 4294967296 ^ k * x:=by
 rw [v32_take_succ,nth_set h,if_pos rfl,List.take_set_of_le (by omega)]
theorem Dig32.set {l:List Int} (h:Dig32 l) (k:Nat) {x:Int} (h0:0<=x) (h1:x < 4294967296):Dig32 (l.set k x):=by
 intro y hy
 rcases List.mem_or_eq_of_mem_set hy with e | e
 ·exact h y e
 ·subst e; exact ⟨h0,h1⟩
theorem dig_zero (n:Nat):Dig32 (List.replicate n 0):=fun x hx=>by
 have:=(List.mem_replicate.1 hx).2
 subst this; decide
structure SumInv (x y lz:List Int) (n k:Nat) (c:Int):Prop where
 len:lz.length=n
 dig:Dig32 lz
 c0:0<=c
 c1:c<=1
 val:v32 (lz.take k) + 4294967296 ^ k * c=v32 (x.take k) + v32 (y.take k)
theorem SumInv.step {x y lz:List Int} {n k:Nat} {c s:Int} (h:SumInv x y lz n k c) (hk:k < n) (hx:Dig32 x) (hy:Dig32 y) (hs:s=c + nth x k + nth y k) :
  SumInv x y (lz.set k (s % 4294967296)) n (k + 1) (s / 4294967296):=by
 have h1:=hx.nth k
 have h2:=hy.nth k
 have h3:=h.c0
 have h4:=h.c1
 have h5:=h.val
 have hl:=h.len
 refine ⟨by simp [hl],h.dig.set _ (by omega) (by omega),by omega,by omega,?_⟩
 rw [v32_take_set (by omega),v32_take_succ,v32_take_succ,Int.pow_succ]
 have e:s=4294967296 * (s / 4294967296) + s % 4294967296:=(Int.mul_ediv_add_emod s 4294967296).symm
 generalize s / 4294967296=q at *
 generalize s % 4294967296=r at *
 have:(4294967296:Int) ^ k * (4294967296 * q + r)=4294967296 ^ k * (c + nth x k + nth y k):=by rw [<- e,hs]
 grind
theorem SumInv.fin {x y lz:List Int} {n:Nat} {c:Int} (h:SumInv x y lz n n c) (hx:Dig32 x) (hy:Dig32 y) (h1:x.length < n) (h2:y.length < n):v32 lz=v32 x + v32 y:=by
 have hv:=h.val
 have hl:=h.len
 have bx:=v32_bound hx
 have by':=v32_bound hy
 have bz:=v32_bound h.dig
 rw [List.take_of_length_le (by omega),List.take_of_length_le (by omega),List.take_of_length_le (by omega)] at hv
 have m1:=pow32_mono (show x.length<=n - 1 by omega)
 have m2:=pow32_mono (show y.length<=n - 1 by omega)
 have hp:(4294967296:Int) ^ n=4294967296 ^ (n - 1) * 4294967296:=by rw [<- Int.pow_succ]; congr 1; omega
 have hq:=p32_pos (n - 1)
 have h3:=h.c0
 have h4:=h.c1
 have hc:c=0:=by
  by_cases e:c=1
  ·subst e; rw [hp] at hv; omega
  ·omega
 subst hc
 omega
structure DifInv (x y lz:List Int) (n k:Nat) (c:Int):Prop where
 len:lz.length=n
 dig:Dig32 lz
 c0:0<=c
 c1:c<=1
 val:v32 (lz.take k)=v32 (x.take k) - v32 (y.take k) + 4294967296 ^ k * c
theorem DifInv.step {x y lz:List Int} {n k:Nat} {c s r c':Int} (h:DifInv x y lz n k c) (hk:k < n) (hs:s=c + nth y k) (hc:c'=0\/c'=1) (hr:r=nth x k - s + 4294967296 * c') (hr0:0<=r) (hr1:r < 4294967296) :
  DifInv x y (lz.set k r) n (k + 1) c':=by
 have h5:=h.val
 have hl:=h.len
 refine ⟨by simp [hl],h.dig.set _ hr0 hr1,by omega,by omega,?_⟩
 rw [v32_take_set (by omega),v32_take_succ,v32_take_succ,Int.pow_succ,h5,hr,hs]
 grind
theorem DifInv.fin {x y lz:List Int} {n:Nat} {c:Int} (h:DifInv x y lz n n c) (hx:Dig32 x) (hy:Dig32 y) (h1:x.length=n) (h2:y.length<=n) (hle:v32 y<=v32 x):v32 lz=v32 x - v32 y:=by
 have hv:=h.val
 have hl:=h.len
 have bz:=v32_bound h.dig
 have bx:=v32_bound hx
 have by':=v32_bound hy
 rw [List.take_of_length_le (by omega),List.take_of_length_le (by omega),List.take_of_length_le (by omega)] at hv
 have h3:=h.c0
 have h4:=h.c1
 rw [hl] at bz
 have hc:c=0:=by
  by_cases e:c=1
  ·subst e; omega
  ·omega
 subst hc
 omega
structure RowInv (y lz0 lz:List Int) (xi:Int) (n i j:Nat) (c:Int):Prop where
 len:lz.length=n
 dig:Dig32 lz
 c0:0<=c
 c1:c < 4294967296
 old:∀ m,i + j<=m->nth lz m=nth lz0 m
 val:v32 lz + 4294967296 ^ (i + j) * c=v32 lz0 + 4294967296 ^ i * (xi * v32 (y.take j))
theorem row_room {a x y c:Int} (ha:0<=a/\a < 4294967296) (hx:0<=x/\x < 4294967296) (hy:0<=y/\y < 4294967296) (hc:0<=c/\c < 4294967296) :
  0<=x * y/\x * y<=18446744065119617025/\0<=a + x * y + c/\a + x * y + c < 18446744073709551616:=by
 have h1:0<=x * y:=Int.mul_nonneg hx.1 hy.1
 have h2:x * y<=4294967295 * 4294967295:=Int.mul_le_mul (by omega) (by omega) hy.1 (by decide)
 omega
theorem RowInv.step {y lz0 lz:List Int} {xi c s:Int} {n i j:Nat} (h:RowInv y lz0 lz xi n i j c) (hn:i + j < n) (hx:0<=xi/\xi < 4294967296) (hy:Dig32 y) (hs:s=nth lz (i + j) + xi * nth y j + c) :
  RowInv y lz0 (lz.set (i + j) (s % 4294967296)) xi n i (j + 1) (s / 4294967296):=by
 have hl:=h.len
 have hr:=row_room (h.dig.nth (i + j)) hx (hy.nth j) ⟨h.c0,h.c1⟩
 rw [<- hs] at hr
 refine ⟨by simp [hl],h.dig.set _ (by omega) (by omega),by omega,by omega,fun m hm => ?_,?_⟩
 ·rw [nth_set (by omega),if_neg (by omega)]; exact h.old m (by omega)
 ·have h5:=h.val
  have e:s=4294967296 * (s / 4294967296) + s % 4294967296:=(Int.mul_ediv_add_emod s 4294967296).symm
  rw [v32_set (by omega),v32_take_succ,show i + (j + 1)=i + j + 1 from by omega,Int.pow_succ]
  generalize s / 4294967296=q at *
  generalize s % 4294967296=r at *
  have e2:(4294967296:Int) ^ (i + j) * (4294967296 * q + r)=4294967296 ^ (i + j) * (nth lz (i + j) + xi * nth y j + c):=by rw [<- e,hs]
  have e3:(4294967296:Int) ^ (i + j)=4294967296 ^ i * 4294967296 ^ j:=Int.pow_add _ _ _
  rw [e3] at *
  grind
structure ProInv (x y lz:List Int) (n k:Nat):Prop where
 len:lz.length=n
 dig:Dig32 lz
 zero:∀ m,k + y.length<=m->nth lz m=0
 val:v32 lz=v32 (x.take k) * v32 y
theorem ProInv.row {x y lz0 lz:List Int} {n k:Nat} {c:Int} (h:ProInv x y lz0 n k) (r:RowInv y lz0 lz (nth x k) n k y.length c) (hn:k + y.length < n):ProInv x y (lz.set (k + y.length) c) n (k + 1):=by
 have hl:=r.len
 refine ⟨by simp [hl],r.dig.set _ r.c0 r.c1,fun m hm => ?_,?_⟩
 ·rw [nth_set (by omega),if_neg (by omega),r.old m (by omega)]; exact h.zero m (by omega)
 ·have h1:=r.val
  have h2:=h.val
  rw [List.take_of_length_le (Nat.le_refl _)] at h1
  rw [v32_set (by omega),r.old _ (Nat.le_refl _),h.zero _ (Nat.le_refl _),v32_take_succ]
  grind
structure DigN (w:World) (B:Nat) (ao:Option Addr) (n c:Nat) (x:Int):Prop where
 ex:∃ b o d,d.length=n/\n<=c/\Dig32 d/\nlen d=d.length/\At w ao b o d/\v32 d=x/\(d=[]\/B<=b)
theorem DigN.o {w:World} {B:Nat} {ao:Option Addr} {n c:Nat} {x:Int} (h:DigN w B ao n c x):DigO w ao n c x:=by
 obtain ⟨b,o,d,h1,h2,h3,h4,h5,h6,_⟩:=h.ex
 exact ⟨b,o,d,h1,h2,h3,h4,h5,h6⟩
theorem DigN.keep {w w':World} {B:Nat} {ao:Option Addr} {n c:Nat} {x:Int} (h:DigN w B ao n c x) (hb:Below w.heap.size w w'):DigN w' B ao n c x:=by
 obtain ⟨b,o,d,h1,h2,h3,h4,h5,h6,h7⟩:=h.ex
 exact ⟨b,o,d,h1,h2,h3,h4,h5.keep hb,h6,h7⟩
theorem DigN.store {w:World} {B g i:Nat} {ao:Option Addr} {n c:Nat} {x:Int} (h:DigN w B ao n c x) (hg:g < B) (u:Value):DigN (w.setCell ⟨g,i,none⟩ u) B ao n c x:=by
 obtain ⟨b,o,d,h1,h2,h3,h4,h5,h6,h7⟩:=h.ex
 refine ⟨b,o,d,h1,h2,h3,h4,h5.wr ((Wr.refl g i 1 w).setCell (by omega) (by omega) u) ?_,h6,h7⟩
 rcases h7 with e | e
 ·exact .inl e
 ·exact .inr (by omega)
theorem DigN.mono {w:World} {B B':Nat} {ao:Option Addr} {n c:Nat} {x:Int} (h:DigN w B ao n c x) (hB:B'<=B):DigN w B' ao n c x:=by
 obtain ⟨b,o,d,h1,h2,h3,h4,h5,h6,h7⟩:=h.ex
 refine ⟨b,o,d,h1,h2,h3,h4,h5,h6,?_⟩
 rcases h7 with e | e
 ·exact .inl e
 ·exact .inr (by omega)
end Go.Proofs.YtfpclhjmfpfhiaaGreat
namespace Go.Proofs.YtfpclhjmfpfhiaaGreat
open Go.RowKit Lim
theorem At.set0 {w:World} {ao:Option Addr} {b:Nat} {l:List Int} (k:At w ao b 0 l) {i:Nat} (hi:i < l.length) (x:Int):At (w.setCell ⟨b,i,none⟩ (.int .u64 x)) ao b 0 (l.set i x):=by
 have:=k.setCell hi x
 rwa [Nat.zero_add] at this
set_option maxHeartbeats 2000000 in
set_option maxRecDepth 100000 in
theorem rAdd {w:World} {ao ao':Option Addr} {n c n' c':Nat} {x y:Int} (h:NatA w ao n c x) (h':NatA w ao' n' c' y) (hn:n<=137438953472) (hn':n'<=137438953472) :
  Calls Tryz.prog 43 #[.slice ao n c,.slice ao' n' c'] w fun e w'=>∃ a k d,e=.returned (.slice a k d)/\NatO w' a k d (x + y)/\k<=2 * n + 2 * n' + 1/\Below w.heap.size w w':=by
 go_enter Tryz.func43,Tryz.ntmps43
 go_wp2_with fail
 refine (rDigits h (by omega)).mono ?_
 rintro e w1 ⟨a1,k1,d1,rfl,O1,hk1,hB⟩
 have HB:=hB
 replace h':=h'.keep hB
 clear hB
 go_wp2_with fail
 refine (rDigits h' (by omega)).mono ?_
 rintro e w2 ⟨a2,k2,d2,rfl,O2,hk2,hB⟩
 replace O1:=O1.keep hB
 replace HB:=joinB HB hB
 clear hB h h'
 obtain ⟨b1,o1,l1,hl1,hc1,D1,N1,A1,rfl⟩:=O1.ex
 obtain ⟨b2,o2,l2,hl2,hc2,D2,N2,A2,rfl⟩:=O2.ex
 clear O1 O2
 have hne1:l1=[]\/b1≠w2.heap.size:=by
  rcases A1.lt with e | e
  ·exact .inl e
  ·exact .inr (by omega)
 have hne2:l2=[]\/b2≠w2.heap.size:=by
  rcases A2.lt with e | e
  ·exact .inl e
  ·exact .inr (by omega)
 obtain ⟨m,hm,hm1,hm2,hm3⟩:∃ m:Nat,Hid ((k1 < k2->m=k2 + 1)/\(¬ k1 < k2->m=k1 + 1))/\k1 < m/\k2 < m/\m<=k1 + k2 + 1:=by
  by_cases e:k1 < k2
  ·exact ⟨k2 + 1,⟨fun _=>rfl,fun h=>absurd e h⟩,by omega,by omega,by omega⟩
  ·exact ⟨k1 + 1,⟨fun h=>absurd h e,fun _=>rfl⟩,by omega,by omega,by omega⟩
 go_wp2_with (at_make; have hmm:=hm.out; refine wpList_makeR rfl _ _ rfl m m _ _ rfl rfl (by omega) (by omega) (Nat.le_refl _) (by omega) ?_; clear hmm; intro w3 hrow hbel hsz)
 all_goals
  have hmm:=hm.out
  first
   | have hm4:m<=k2 + 1/\k2 + 1<=m:=by omega
   | have hm4:m<=k1 + 1/\k1 + 1<=m:=by omega
  obtain ⟨hm5,hm6⟩:=hm4
  clear hmm
  go_loopw [9,10] (fun tc ti wr=>∃ (k:Nat) (c:Int) (lz:List Int),k<=m/\ti=.int .i64 k/\tc=.int .u64 c/\SumInv l1 l2 lz m k c/\At wr (some ⟨w2.heap.size,0,none⟩) w2.heap.size 0 lz/\Wr w2.heap.size 0 m w3 wr) (fun _ ti _=>m - (intOf ti).toNat)
  case atStart=>exact ⟨0,0,_,Nat.zero_le _,rfl,rfl,⟨by simp,dig_zero _,by decide,by decide,by simp [v32]⟩,hrow.at,Wr.refl _ _ _ _⟩
  case round =>
   obtain ⟨k,c,lz,hk,rfl,rfl,hinv,hat,hwr⟩:=hrel
   by_cases hlt:k < m
   ·have hlen:=hinv.len
    have hfr:=hwr.free (hrow.free 0 m) k (by omega)
    have hcz:=hat.cell k (by omega)
    rw [Nat.zero_add] at hfr hcz
    have hk0:(k:Int) < m:=by omega
    have HA:=(show Hid _ from hat)
    have HW:=(show Hid _ from hwr)
    by_cases hx:k < k1
    ·by_cases hy:k < k2
     ·have p1:=D1.nth k
      have p2:=D2.nth k
      rcases A1.loc with e | rfl
      ·subst e; simp at hl1; omega
      have q1:=((A1.keep hbel).wr hwr hne1).cell k (by omega)
      have hx0:(k:Int) < k1:=by omega
      rcases A2.loc with e | rfl
      ·subst e; simp at hl2; omega
      have q2:=((A2.keep hbel).wr hwr hne2).cell k (by omega)
      have hy0:(k:Int) < k2:=by omega
      have HS:Hid _:=(show Hid _ from hinv.step hlt D1 D2 (s:=c + nth l1 k + nth l2 k) rfl)
      have c0:=hinv.c0
      have c1:=hinv.c1
      have hand:=and32 (c + nth l1 k + nth l2 k) (by omega) (by omega)
      clear hinv A1 A2 hat hwr hne1 hne2 hrow D1 D2 N1 N2 hl1 hl2
      generalize nth l1 k=g1 at *
      generalize nth l2 k=g2 at *
      go_wp2
      all_goals exact ⟨⟨k + 1,_,_,by omega,by go_num,rfl,HS.out,HA.out.set0 (by omega) _,HW.out.setCell (by omega) (by omega) _⟩,by simp [intOf]; omega⟩
     ·have p1:=D1.nth k
      rcases A1.loc with e | rfl
      ·subst e; simp at hl1; omega
      have q1:=((A1.keep hbel).wr hwr hne1).cell k (by omega)
      have hx0:(k:Int) < k1:=by omega
      have hy0:¬ (k:Int) < k2:=by omega
      have HS:Hid _:=(show Hid _ from hinv.step hlt D1 D2 (s:=c + nth l1 k) (by rw [nth_ge (l:=l2) (by omega)]; omega))
      have c0:=hinv.c0
      have c1:=hinv.c1
      have hand:=and32 (c + nth l1 k) (by omega) (by omega)
      clear hinv A1 A2 hat hwr hne1 hne2 hrow D1 D2 N1 N2 hl1 hl2
      generalize nth l1 k=g1 at *
      go_wp2
      all_goals exact ⟨⟨k + 1,_,_,by omega,by go_num,rfl,HS.out,HA.out.set0 (by omega) _,HW.out.setCell (by omega) (by omega) _⟩,by simp [intOf]; omega⟩
    ·by_cases hy:k < k2
     ·have p2:=D2.nth k
      have hx0:¬ (k:Int) < k1:=by omega
      rcases A2.loc with e | rfl
      ·subst e; simp at hl2; omega
      have q2:=((A2.keep hbel).wr hwr hne2).cell k (by omega)
      have hy0:(k:Int) < k2:=by omega
      have HS:Hid _:=(show Hid _ from hinv.step hlt D1 D2 (s:=c + nth l2 k) (by rw [nth_ge (l:=l1) (by omega)]; omega))
      have c0:=hinv.c0
      have c1:=hinv.c1
      have hand:=and32 (c + nth l2 k) (by omega) (by omega)
      clear hinv A1 A2 hat hwr hne1 hne2 hrow D1 D2 N1 N2 hl1 hl2
      generalize nth l2 k=g2 at *
      go_wp2
      all_goals exact ⟨⟨k + 1,_,_,by omega,by go_num,rfl,HS.out,HA.out.set0 (by omega) _,HW.out.setCell (by omega) (by omega) _⟩,by simp [intOf]; omega⟩
     ·skip
      have hx0:¬ (k:Int) < k1:=by omega
      have hy0:¬ (k:Int) < k2:=by omega
      have HS:Hid _:=(show Hid _ from hinv.step hlt D1 D2 (s:=c) (by rw [nth_ge (l:=l1) (by omega),nth_ge (l:=l2) (by omega)]; omega))
      have c0:=hinv.c0
      have c1:=hinv.c1
      have hand:=and32 (c) (by omega) (by omega)
      clear hinv A1 A2 hat hwr hne1 hne2 hrow D1 D2 N1 N2 hl1 hl2
      go_wp2
      all_goals exact ⟨⟨k + 1,_,_,by omega,by go_num,rfl,HS.out,HA.out.set0 (by omega) _,HW.out.setCell (by omega) (by omega) _⟩,by simp [intOf]; omega⟩
   ·have hkm:k=m:=by omega
    subst hkm
    have hv:=hinv.fin D1 D2 (by omega) (by omega)
    have hlen:=hinv.len
    have hb3:=hbel.trans (hwr.below (Nat.le_refl _))
    have t:=number_any (some ⟨w2.heap.size,0,none⟩) k k w2.heap.size 0 lz wr hlen (Nat.le_refl _) (by omega) hinv.dig hat
    rw [hv] at t
    clear hinv hat hwr hrow hbel hv A1 A2 hne1 hne2
    go_wp2_with fail
    refine t.mono ?_
    rintro e w5 ⟨v,r,rfl,hnw,hI,hlr,hB5⟩
    obtain ⟨a,d,rfl,hO⟩:=hnw.o hI
    go_wp2
    go_ret
    exact ⟨a,_,d,rfl,hO,by omega,joinB (joinB HB hb3) hB5⟩
end Go.Proofs.YtfpclhjmfpfhiaaGreat
namespace Go.Proofs.YtfpclhjmfpfhiaaGreat
open Go.RowKit Lim
theorem natO_len {w:World} {ao:Option Addr} {n c m:Nat} {x:Int} (h:NatO w ao n c x) (hx:x < 18446744073709551616 ^ m):n<=m:=by
 obtain ⟨b,o,l,h1,h2,h3,h4⟩:=h.ex
 rcases Nat.lt_or_ge m n with e | e
 ·have e1:=val_ge_of_nlen h3.1 (by rw [h3.2.1]; omega)
  have e2:=pow_mono (show m<=nlen l - 1 by rw [h3.2.1]; omega)
  rw [h3.2.2] at e1
  omega
 ·exact e
theorem natA_1 (w:World) (x:Int) (h0:0<=x) (h1:x < 18446744073709551616):NatA (w.alloc (.cells #[.int .u64 x] 31)) (some ⟨w.heap.size,0,none⟩) 1 1 x :=
 ⟨_,_,[x],rfl,Nat.le_refl _,Words.cons h0 h1 Words.nil,(Row.built1 w x).at,by simp [val]⟩
set_option maxHeartbeats 1000000 in
set_option maxRecDepth 100000 in
theorem rOf1 {w:World} {x:Int} (h0:0<=x) (h1:x < 18446744073709551616) :
  Calls Tryz.prog 44 #[.int .u64 x] w fun e w'=>∃ a k d,e=.returned (.slice a k d)/\NatO w' a k d x/\k<=2/\Below w.heap.size w w':=by
 have hN:=natA_1 w x h0 h1
 have hb:=below_alloc w (.cells #[.int .u64 x] 31)
 go_enter Tryz.func44,Tryz.ntmps44
 go_wp2_with fail
 refine (rNorm hN (by omega)).mono ?_
 rintro e w1 ⟨a1,k1,d1,rfl,O1,hk1,hB⟩
 go_wp2
 go_ret
 exact ⟨a1,k1,d1,rfl,O1,by omega,joinB hb hB⟩
end Go.Proofs.YtfpclhjmfpfhiaaGreat
