/- Several texts, joined: RefV, RefW, FreshW, RefX. -/
import Derived.Test.YtlbndpkdkdgggaaGreatDoorJnd
import Derived.Laws.OwnMore
import Derived.Test.YtlbndpkdkdgggaaGreatDoorJnc
import Derived.Test.YtlbndpkdkdgggaaGreatDoorJnb
set_option maxRecDepth 100000
set_option maxHeartbeats 8000000
namespace Go.Proofs.YtlbndpkdkdgggaaGreatDoor
section
open Go.RowKit Lim
theorem DigO.len {w:World} {ao:Option Addr} {n c m:Nat} {x:Int} (h:DigO w ao n c x) (hx:x < 4294967296 ^ m):n<=m:=by
 obtain ⟨b,o,d,h1,h2,h3,h4,h5,rfl⟩:=h.ex
 rcases Nat.lt_or_ge m n with e | e
 ·have e1:=nlen_last (l:=d) (by omega)
  rw [h4] at e1
  have e2:=v32_ge h3 (by omega) e1
  have e3:=pow32_mono (show m<=d.length - 1 by omega)
  omega
 ·exact e
theorem v32_drop (l:List Int) (m:Nat):v32 (l.drop m)=nth l m + 4294967296 * v32 (l.drop (m + 1)):=by
 rw [v32_cons,nth_drop,Nat.add_zero]
 congr 2
 rw [List.tail_drop]
theorem v32_drop_set {l:List Int} {m:Nat} (h:m < l.length) (x:Int):v32 ((l.set m x).drop m)=x + 4294967296 * v32 (l.drop (m + 1)):=by
 rw [v32_drop,nth_set h,if_pos rfl]
 congr 3
 rw [List.drop_set_of_lt (by omega)]
structure QuoInv (l lq:List Int) (Y R:Int) (n m:Nat):Prop where
 len:lq.length=n
 dig:Dig32 lq
 quo:v32 (lq.drop m)=v32 (l.drop m) / Y
 rest:R=v32 (l.drop m) % Y
theorem QuoInv.step {l lq:List Int} {Y R q:Int} {n m:Nat} (h:QuoInv l lq Y R n (m + 1)) (hm:m < n) (hY:0 < Y) (hq:q=(nth l m + 4294967296 * R) / Y) (h0:0<=q) (h1:q<=4294967295) :
  QuoInv l (lq.set m q) Y (nth l m + 4294967296 * R - Y * q) n m:=by
 have hl:=h.len
 have e1:=Int.mul_ediv_add_emod (v32 (l.drop (m + 1))) Y
 rw [<- h.rest] at e1
 have e2:v32 (l.drop m)=nth l m + 4294967296 * R + Y * (4294967296 * (v32 (l.drop (m + 1)) / Y)):=by
  rw [v32_drop l m,<- e1]
  have:(Y * (v32 (l.drop (m + 1)) / Y) + R) / Y=v32 (l.drop (m + 1)) / Y:=by rw [e1]
  rw [this]; grind
 refine ⟨by simp [hl],h.dig.set _ h0 (by omega),?_,?_⟩
 ·rw [v32_drop_set (by omega),h.quo,e2,Int.add_mul_ediv_left _ _ (by omega),hq]
 ·rw [e2,Int.add_mul_emod_self_left,hq]
  have:=Int.mul_ediv_add_emod (nth l m + 4294967296 * R) Y
  omega
theorem rest_room {x R Y:Int} (hx:0<=x/\x < 4294967296) (hR:0<=R) (hY:R < Y):0<=x + 4294967296 * R/\x + 4294967296 * R < 4294967296 * Y:=by omega
theorem half_up {lo hi q mid Y R:Int} (h:lo < hi) (hm:mid=(lo + hi + 1) / 2) (hY:0 < Y) (hq:q=R / Y):(Y * mid<=R->mid<=q)/\(¬ Y * mid<=R->q<=mid - 1)/\lo < mid/\mid<=hi:=by
 refine ⟨fun h => ?_,fun h => ?_,by omega,by omega⟩
 ·rw [hq]; exact (Int.le_ediv_iff_mul_le hY).2 (by rw [Int.mul_comm]; exact h)
 ·have:R / Y < mid:=Int.ediv_lt_of_lt_mul hY (by rw [Int.mul_comm mid]; omega)
  omega
theorem wpList_consR {w:World} {ops:Array Oper} {rest:List Oper} {o:Oper} {a:Act} {Q:Exit->Act->World->Prop}
  (hg:o.guard=none) (d s:Operand) (hop:o.op=.call { callee:=.builtin .append,args:=#[d,s],argTypes:=#[32,32] })
  (B:Nat) (x:Int) (v:Value) (hd:a.eval d=v) (hown:w.ownsRow B 31 1 v 1 [.int .u64 x]) (hB:B<=w.heap.size)
  (ar:Option Addr) (kr dr b f:Nat) (hs:a.eval s=.slice ar kr dr) (ds:List Int) (hl:ds.length=kr) (hat:At w ar b f ds) (hnil:ar=none->kr=0/\dr=0) (hbig:kr<=1099511627776)
  (hK:∀ v' w',Mine w' B v' (x :: ds)->Below B w w'->wpList Tryz.prog ops Q rest (a.put o.dst v') w') :
  wpList Tryz.prog ops Q (o :: rest) a w:=by
 obtain ⟨i0,hi,hz0,hz1,hz2⟩:=info_parts info_u64
 cases ar with
 | none =>
  obtain ⟨h1,h2⟩:=hnil rfl
  have e0:ds=[]:=List.eq_nil_of_length_eq_zero (by omega)
  subst e0
  subst h1
  subst h2
  exact wpList_append_own_none hg d s 32 hop B 31 i0 1 under_u64r hi v 1 _ hd hown hs (hK v w hown (Below.refl _ _))
 | some ad =>
  have hsrc:∀ j u,(ds.map (Value.int .u64))[j]? = some u->w.cell? (ad.add j)=some u:=by
   intro j u hu
   rw [List.getElem?_map] at hu
   have hj:j < ds.length:=by
    rcases Nat.lt_or_ge j ds.length with hj | hj
    ·exact hj
    ·rw [List.getElem?_eq_none hj] at hu; simp at hu
   rw [List.getElem?_eq_getElem hj] at hu
   simp at hu
   subst hu
   have hx:ad=⟨b,f,none⟩:=by
    rcases hat.loc with e | e
    ·subst e; simp at hj
    ·simpa using e
   subst hx
   have:=hat.cell j hj
   rw [nth_eq hj] at this
   rw [<- this]
   by_cases hj0:j=0
   ·subst hj0; exact congrArg w.cell? (by simp [Addr.add])
   ·exact congrArg w.cell? (by simp [Addr.add,hj0])
  refine wpList_append_own _ hg d s 32 hop B 31 i0 (.int .u64 0) 1 8 under_u64r hi hz0 hz1 hz2 rfl (by decide) v 1 _ hd hown ad kr dr (ds.map (Value.int .u64)) hs (by simp [hl]) hsrc (ints_oneCell _ _) (by unfold maxLen; omega) (by omega) hB ?_
  intro v' w' hown' hgrow _
  refine hK v' w' ?_ ((Below.refl _ _).grown hgrow hB (own_ge hown))
  unfold Mine
  rw [List.length_cons,hl,Nat.add_comm]
  simpa using hown'
theorem zrep_drop (n m:Nat):v32 ((List.replicate n 0).drop m)=0:=v32_zeros fun i=>by
 rw [nth_drop]; simp [nth,List.getElem?_replicate]; split<;>rfl
theorem norm_cons_val (x:Int) (ds:List Int):v32 (norm (x :: ds))=x + 4294967296 * v32 ds:=by rw [v32_norm]; rfl
end
section
open Go.RowKit Lim
theorem rDiv {w:World} {ao ao':Option Addr} {n c n' c':Nat} {x y:Int} (h:NatA w ao n c x) (h':NatA w ao' n' c' y) (hn:n<=137438953472) (hn':n'<=137438953472) (hne:y≠0) :
  Calls Tryz.prog 125 #[.slice ao n c,.slice ao' n' c'] w fun e w'=>∃ a k d a' k' d',e=.returned (.tuple #[.slice a k d,.slice a' k' d',.int .i64 0])/\NatO w' a k d (x / y)/\NatO w' a' k' d' (x % y)/\k<=2 * n/\k'<=2 * n'/\Below w.heap.size w w':=by
 have hy0:=h'.nonneg
 have hY:0 < y:=by omega
 clear hne hy0
 go_enter Tryz.func125,Tryz.ntmps125
 go_wp2_with fail
 refine (rDigits h (by omega)).mono ?_
 rintro e w1 ⟨a1,k1,d1,rfl,O1,hk1,hB⟩
 have HB:=hB
 replace h':=h'.keep hB
 clear hB
 go_wp2_with fail
 refine (rDigits h' (by omega)).mono ?_
 rintro e w2 ⟨a2,k2,d2,rfl,O2,hk2,hB⟩
 replace O1:=O1.keep hB
 replace HB:=joinB HB hB
 clear hB h h'
 have hk20:k2≠0:=by
  rintro rfl
  obtain ⟨b,o,d,q1,_,_,_,_,q6⟩:=O2.ex
  obtain rfl:d=[]:=List.eq_nil_of_length_eq_zero q1
  simp [v32] at q6
  omega
 have hk2':((k2:Int) == 0)=false:=beq_eq_false_iff_ne.2 (by omega)
 have hYb:y < 4294967296 ^ k2:=by
  obtain ⟨b,o,d,q1,_,q3,_,_,q6⟩:=O2.ex
  have:=(v32_bound q3).2
  rw [q1,q6] at this
  exact this
 obtain ⟨b1,o1,l1,hl1,hc1,D1,N1,A1,rfl⟩:=O1.ex
 clear O1
 obtain ⟨g,hg⟩:∃ g,g=w2.heap.size:=⟨_,rfl⟩
 go_wp2_with (at_make; refine wpList_makeR rfl _ _ rfl k1 k1 _ _ rfl rfl rfl rfl (Nat.le_refl _) (by omega) ?_; intro w3 hrow hbel hsz)
 rw [<- hg] at hrow hsz ⊢
 have hg1:g<=w2.heap.size:=by omega
 have hg2:w2.heap.size<=g:=by omega
 clear hg
 have hHB2:=(show Hid _ from hbel)
 go_loopw [10,11] (fun tr ti wr=>∃ (m:Nat) (ar:Option Addr) (kr dr:Nat) (R:Int) (lq:List Int),m<=k1/\ti=.int .i64 ((m:Int) - 1)/\tr=.slice ar kr dr/\DigN wr (g + 1) ar kr dr R/\Hid (ar=none->kr=0/\dr=0)/\QuoInv l1 lq y R k1 m/\At wr (some ⟨g,0,none⟩) g 0 lq/\Free wr g 0 k1/\g + 1<=wr.heap.size/\Below w2.heap.size w2 wr) (fun _ ti _=>(intOf ti + 1).toNat)
 case atStart=>exact ⟨k1,none,0,0,0,_,Nat.le_refl _,by first | rfl | go_num,rfl,⟨0,0,[],rfl,Nat.le_refl _,fun x hx=>by simp at hx,rfl,⟨.inl rfl,fun i hi=>by simp at hi⟩,rfl,.inl rfl⟩,fun _=>⟨rfl,rfl⟩,⟨by simp,dig_zero _,by rw [zrep_drop,List.drop_of_length_le (by omega)]; simp [v32],by rw [List.drop_of_length_le (by omega)]; simp [v32]⟩,hrow.at,hrow.free _ _,by omega,hHB2.out⟩
 case round =>
  clear hrow hbel hHB2 hsz
  obtain ⟨m,ar,kr,dr,R,lq,hm,rfl,rfl,OR,hnil,hinv,hat,hfr,hgz,hB2⟩:=hrel
  obtain ⟨wo,rfl⟩:∃ wo:World,wo=wr:=⟨_,rfl⟩
  have hR:=hinv.rest
  have hRR:R < y/\0<=R:=by
   rw [hR]
   exact ⟨Int.emod_lt_of_pos _ hY,Int.emod_nonneg _ (by omega)⟩
  obtain ⟨hRy,hR0⟩:=hRR
  clear hR
  have hkr:=OR.o.len (Int.lt_trans hRy hYb)
  cases m with
  | zero =>
   have hv:=hinv.quo
   have hr:=hinv.rest
   have hlq:=hinv.len
   rw [List.drop_zero,List.drop_zero] at hv
   rw [List.drop_zero] at hr
   have t:=number_any (some ⟨g,0,none⟩) k1 k1 g 0 lq wo hlq (Nat.le_refl _) (by omega) hinv.dig hat
   rw [hv] at t
   have HR:=(show Hid _ from hr)
   clear hinv hat hfr hv hr A1 D1 N1 hl1
   go_wp2_with fail
   refine t.mono ?_
   rintro e w5 ⟨v,r,rfl,hnw,hI,hlr,hB⟩
   obtain ⟨a,d,rfl,hO⟩:=hnw.o hI
   replace OR:=OR.keep hB
   replace hB2:=joinB hB2 hB
   clear hB t
   go_wp2_with fail
   refine (rNumber OR.o (by omega)).mono ?_
   rintro e w6 ⟨a6,k6,d6,rfl,O6,hk6,hB⟩
   replace hO:=hO.keep hB
   replace hB2:=joinB hB2 hB
   go_wp2
   go_ret3
   exact ⟨_,_,_,_,_,_,rfl,hO,O6.eqv HR.out,by omega,by omega,joinB HB hB2⟩
  | succ m =>
   have hlq:=hinv.len
   have hx:=D1.nth m
   rcases A1.loc with e | rfl
   ·subst e; simp at hl1; omega
   have q1:=(A1.keep hB2).cell m (by omega)
   have hm0:(m:Int) < k1:=by omega
   obtain ⟨hr0,hr1⟩:=rest_room hx hR0 hRy
   have HQ:Hid (∀ q,q=(nth l1 m + 4294967296 * R) / y->0<=q->q<=4294967295->QuoInv l1 (lq.set m q) y (nth l1 m + 4294967296 * R - y * q) k1 m):=fun q e1 e2 e3=>hinv.step (by omega) hY e1 e2 e3
   have hqq:=digit_le hY hr1
   have hqp:0<=(nth l1 m + 4294967296 * R) / y:=Int.ediv_nonneg hr0 (by omega)
   clear hinv
   rw [show ((m + 1:Nat):Int) - 1=(m:Int) by omega]
   obtain ⟨bR,oR,ds,hds,hcR,DR,NR,AR,hvR,_⟩:=OR.ex
   clear OR
   have hHD:=(show Hid _ from hvR)
   clear hvR
   have hown:=World.ownsRow_lit (base:=g + 1) (e:=31) (size:=1) wo #[.int .u64 (nth l1 m)] 1 hgz (by unfold maxLen; omega) rfl
   have bA:=below_alloc wo (.cells #[.int .u64 (nth l1 m)] 31)
   have hat1:=hat.keep bA
   have hfr1:=Free.below bA hfr (by omega)
   have AR1:=AR.keep bA
   have hB21:=joinB hB2 bA
   have hgz1:g + 1<=(wo.alloc (.cells #[.int .u64 (nth l1 m)] 31)).heap.size:=Nat.le_trans hgz bA.size
   clear hat hfr AR hB2 bA hgz
   generalize nth l1 m=X at *
   go_wp2_with (at_builtin; refine wpList_consR rfl _ _ rfl (g + 1) X _ rfl hown hgz1 ar kr dr bR oR rfl ds hds AR1 hnil.out (by omega) ?_; intro v5 w5 hM hb5)
   obtain ⟨ar5,c5,rfl,hc5,_,g5,_,hg5,A5,_⟩:=hM.open
   have hat5:=hat1.below hb5 (.inr (by omega))
   have hfr5:=Free.below hb5 hfr1 (by omega)
   have hB25:=hB21.trans (hb5.mono (by omega))
   have hgz5:g + 1<=w5.heap.size:=Nat.le_trans hgz1 hb5.size
   have t5:=refTrim_any ar5 (X :: ds).length c5 (X :: ds) w5 rfl hc5 (by simp only [List.length_cons]; omega) A5.cells
   have dX:Dig32 (X :: ds):=fun z hz=>by
    rcases List.mem_cons.1 hz with e | e
    ·subst e; exact hx
    ·exact DR z e
   have O5:DigN w5 (g + 1) ar5 (nlen (X :: ds)) c5 (X + 4294967296 * R):=⟨g5,0,norm (X :: ds),norm_length _,by have:=nlen_le (X :: ds); omega,dX.take _,nlen_norm _,A5.sub _,by rw [norm_cons_val,hHD.out],.inr hg5⟩
   have hk5:=nlen_le (X :: ds)
   rw [List.length_cons,hds] at hk5
   clear hM hb5 A5 hat1 hfr1 hB21 hgz1 hown AR1 DR NR dX hHD hnil
   generalize hKK:nlen (X :: ds)=K5 at *
   clear hKK
   generalize (X :: ds).length=L5 at *
   go_wp2_with fail
   refine t5.mono ?_
   rintro e w6 ⟨rfl,rfl⟩
   clear t5
   have Oy:=O2.keep hB25
   go_wp2_with fail
   refine (rguess O5.o Oy (by omega) (by omega) hY hr1).mono ?_
   rintro e w7 ⟨lo0,hi0,rfl,hlo0,hlq0,hqh0,hhi0,hB⟩
   replace O5:=O5.keep hB
   replace hat5:=hat5.keep hB
   replace hfr5:=Free.below hB hfr5 (by omega)
   replace hB25:=joinB hB25 hB
   replace hgz5:=Nat.le_trans hgz5 hB.size
   clear hB Oy
   generalize hqe:(X + 4294967296 * R) / y=q at *
   have HQE:=(show Hid _ from hqe)
   clear hqe
   generalize hre:X + 4294967296 * R=R' at *
   clear hre
   go_wp2_with fail
   go_loopw [12,13] (fun tl th wr=>∃ lo hi:Int,tl=.int .u64 lo/\th=.int .u64 hi/\0<=lo/\lo<=q/\q<=hi/\hi<=4294967295/\Below w7.heap.size w7 wr) (fun tl th _=>(intOf th - intOf tl).toNat)
   case atStart=>exact ⟨lo0,hi0,rfl,rfl,hlo0,hlq0,hqh0,hhi0,Below.refl _ _⟩
   case round =>
    clear hlo0 hlq0 hqh0 hhi0
    obtain ⟨lo,hi,rfl,rfl,hlo,hlq',hqh,hhi,hB7⟩:=hrel
    by_cases hlh:lo < hi
    ·obtain ⟨u1,u2,u3,u4⟩:=half_up (lo:=lo) (hi:=hi) (q:=q) hlh rfl hY HQE.out.symm
     have HU1:=(show Hid _ from u1)
     have HU2:=(show Hid _ from u2)
     clear u1 u2
     have hmid:0<=(lo + hi + 1) / 2/\(lo + hi + 1) / 2 < 4294967296:=by omega
     obtain ⟨hmid0,hmid1⟩:=hmid
     have Oy:=O2.keep (joinB hB25 hB7)
     have O5':=O5.keep hB7
     clear hat5 hfr5 O5
     have t8:=rsmall (k:=(lo + hi + 1) / 2) Oy (by omega) hmid0 hmid1
     go_wp2_with fail
     refine t8.mono ?_
     rintro e w8 ⟨a8,k8,d8,rfl,O8,hk8,hB⟩
     replace O5':=O5'.keep hB
     replace hB7:=joinB hB7 hB
     clear hB t8 Oy
     have t9:=rcmp O8 O5'.o (by omega) (by omega)
     by_cases hle:y * ((lo + hi + 1) / 2)<=R'
     ·have hs:sgn (y * ((lo + hi + 1) / 2)) R'<=0:=by unfold sgn; split<;>(try split)<;>omega
      have hmq:=HU1.out hle
      clear HU1 HU2 hle
      generalize sgn (y * ((lo + hi + 1) / 2)) R'=sg at *
      go_wp2_with fail
      refine t9.mono ?_
      rintro e w9 ⟨rfl,hB⟩
      replace hB7:=joinB hB7 hB
      go_wp2
      go_roundw
      case rel=>exact ⟨_,_,rfl,rfl,by omega,hmq,hqh,hhi,hB7⟩
      case measure=>simp [intOf]; omega
     ·have hs:0 < sgn (y * ((lo + hi + 1) / 2)) R':=by unfold sgn; split<;>(try split)<;>omega
      have hmq:=HU2.out (by omega)
      clear HU1 HU2 hle
      generalize sgn (y * ((lo + hi + 1) / 2)) R'=sg at *
      go_wp2_with fail
      refine t9.mono ?_
      rintro e w9 ⟨rfl,hB⟩
      replace hB7:=joinB hB7 hB
      go_wp2
      go_roundw
      case rel=>exact ⟨_,_,rfl,rfl,hlo,hlq',hmq,by omega,hB7⟩
      case measure=>simp [intOf]; omega
    ·obtain rfl:lo=q:=by omega
     obtain rfl:hi=lo:=by omega
     have HI:=(show Hid _ from HQ.out hi rfl (by omega) (by omega))
     replace O5:=O5.keep hB7
     replace hat5:=hat5.keep hB7
     replace hfr5:=Free.below hB7 hfr5 (by omega)
     replace hB25:=joinB hB25 hB7
     replace hgz5:=Nat.le_trans hgz5 hB7.size
     obtain ⟨wp,rfl⟩:∃ wp:World,wp=wr:=⟨_,rfl⟩
     have q3:=hat5.cell m (by omega)
     have q4:=hfr5 m (by omega)
     rw [Nat.zero_add] at q3 q4
     have O5s:=O5.store (g:=g) (i:=m) (by omega) (.int .u64 hi)
     have hats:=hat5.set0 (i:=m) (by omega) hi
     have hwrs:=(Wr.refl g m 1 wp).setCell (i:=m) (Nat.le_refl _) (by omega) (.int .u64 hi)
     have hfrs:=hwrs.free hfr5
     have hB2s:=hB25.trans (hwrs.below (B:=w2.heap.size) (by omega))
     have hgzs:g + 1<=(wp.setCell ⟨g,m,none⟩ (.int .u64 hi)).heap.size:=by rw [hwrs.size]; exact hgz5
     have Oy:=O2.keep hB2s
     have hle:y * hi<=R':=by
      rw [<- HQE.out]
      exact Int.mul_ediv_self_le (by omega)
     have HLE:=(show Hid _ from hle)
     clear O5 hat5 hfr5 hB25 hgz5 hwrs HQ HQE hB7 hle
     have t8:=rsmall (k:=hi) Oy (by omega) (by omega) (by omega)
     go_wp2_with fail
     refine t8.mono ?_
     rintro e w8 ⟨a8,k8,d8,rfl,O8,hk8,hB⟩
     replace O5s:=O5s.keep hB
     replace hats:=hats.keep hB
     replace hfrs:=Free.below hB hfrs (by omega)
     replace hB2s:=joinB hB2s hB
     replace hgzs:=Nat.le_trans hgzs hB.size
     clear hB t8 Oy
     go_wp2_with fail
     refine (rtake O5s.o O8 (by omega) (by omega) HLE.out).mono ?_
     rintro e w9 ⟨a9,k9,d9,rfl,O9,hk9,hB⟩
     replace hats:=hats.keep hB
     replace hfrs:=Free.below hB hfrs (by omega)
     replace hB2s:=joinB hB2s hB
     replace O9:=O9.mono hgzs
     replace hgzs:=Nat.le_trans hgzs hB.size
     go_wp2
     exact ⟨⟨m,some a9,k9,d9,_,_,by omega,by first | rfl | go_num,rfl,O9,(fun e=>by cases e),HI.out,hats,hfrs,hgzs,hB2s⟩,by simp [intOf]⟩
end
section
open Go.RowKit Lim
end
section
open Go.RowKit Lim
theorem NatO.len {w:World} {ao:Option Addr} {n c m:Nat} {x:Int} (h:NatO w ao n c x) (hx:x < 18446744073709551616 ^ m):n<=m:=by
 obtain ⟨b,o,l,h1,h2,h3,h4⟩:=h.ex
 rcases Nat.lt_or_ge m n with e | e
 ·have e1:=val_ge_of_nlen h3.1 (by rw [h3.2.1]; omega)
  have e2:=pow_mono (show m<=nlen l - 1 by rw [h3.2.1]; omega)
  rw [h3.2.2] at e1
  omega
 ·exact e
theorem NatA.lt {w:World} {ao:Option Addr} {n c:Nat} {x:Int} (h:NatA w ao n c x):x < 18446744073709551616 ^ n:=by
 obtain ⟨b,o,l,h1,h2,h3,h4,rfl⟩:=h.ex
 have:=val_lt h3
 rwa [h1] at this
theorem NatO.mem {w:World} {ao:Option Addr} {n c:Nat} {x:Int} (h:NatO w ao n c x):memVal w (.slice ao n c)=x:=by
 obtain ⟨b,o,l,h1,h2,h3,h4⟩:=h.ex
 subst h1
 rw [memVal_at h4]; exact h3.2.2
theorem natA_one (w:World) (x:Int) (h0:0<=x) (h1:x < 18446744073709551616):NatA (w.alloc (.cells #[.int .u64 x] 31)) (some ⟨w.heap.size,0,none⟩) 1 1 x :=
 ⟨_,_,[x],rfl,Nat.le_refl _,Words.cons h0 h1 Words.nil,(Row.built1 w x).at,by simp [val]⟩
theorem rOf {w:World} {x:Int} (h0:0<=x) (h1:x < 18446744073709551616) :
  Calls Tryz.prog 66 #[.int .u64 x] w fun e w'=>∃ a k d,e=.returned (.slice a k d)/\NatO w' a k d x/\k<=2/\Below w.heap.size w w':=by
 have hN:=natA_one w x h0 h1
 have hb:=below_alloc w (.cells #[.int .u64 x] 31)
 go_enter Tryz.func66,Tryz.ntmps66
 go_wp2_with fail
 refine (rNorm hN (by omega)).mono ?_
 rintro e w1 ⟨a1,k1,d1,rfl,O1,hk1,hB⟩
 go_wp2
 go_ret
 exact ⟨a1,k1,d1,rfl,O1,by omega,joinB hb hB⟩
theorem rGcd {w:World} {ao ao':Option Addr} {n c n' c':Nat} {x y:Int} (h:NatA w ao n c x) (h':NatA w ao' n' c' y) (hn:n<=34359738368) (hn':n'<=34359738368) :
  Calls Tryz.prog 124 #[.slice ao n c,.slice ao' n' c'] w fun e w'=>∃ a k d,e=.returned (.slice a k d)/\NatO w' a k d (Int.gcd x y:Nat)/\k<=n + n'/\Below w.heap.size w w':=by
 have hx:=h.lt
 have hy:=h'.lt
 have hp1:=pow_mono (show n<=n + n' by omega)
 have hp2:=pow_mono (show n'<=n + n' by omega)
 have hx':x < 18446744073709551616 ^ (n + n'):=by omega
 have hy':y < 18446744073709551616 ^ (n + n'):=by omega
 have HX:=(show Hid _ from hx')
 have HY:=(show Hid _ from hy')
 clear hx hy hp1 hp2 hx' hy'
 obtain ⟨G,hG⟩:∃ G:Nat,Int.gcd x y=G:=⟨_,rfl⟩
 rw [hG]
 have HG:=(show Hid _ from hG)
 clear hG
 go_enter Tryz.func124,Tryz.ntmps124
 go_wp2_with fail
 refine (rNorm h (by omega)).mono ?_
 rintro e w1 ⟨a1,k1,d1,rfl,O1,hk1,hB⟩
 have HB:=hB
 replace h':=h'.keep hB
 clear hB h
 go_wp2_with fail
 refine (rNorm h' (by omega)).mono ?_
 rintro e w2 ⟨a2,k2,d2,rfl,O2,hk2,hB⟩
 replace O1:=O1.keep hB
 replace HB:=joinB HB hB
 clear hB h'
 go_wp2_with fail
 go_loopw [0,1] (fun tx ty wr=>∃ (X Y:Int) (aa:Option Addr) (ka da:Nat) (ab:Option Addr) (kb db:Nat),tx=.slice aa ka da/\ty=.slice ab kb db/\NatO wr aa ka da X/\NatO wr ab kb db Y/\Hid (Int.gcd X Y=G)/\Hid (X < 18446744073709551616 ^ (n + n'))/\Hid (Y < 18446744073709551616 ^ (n + n'))/\Below w.heap.size w wr) (fun _ ty wr=>(memVal wr ty).toNat)
 case atStart=>exact ⟨x,y,a1,k1,d1,a2,k2,d2,rfl,rfl,O1,O2,HG,HX,HY,HB⟩
 case round =>
  clear O1 O2 HB HX HY HG
  obtain ⟨X,Y,aa,ka,da,ab,kb,db,rfl,rfl,OX,OY,hG,hX,hY,HB⟩:=hrel
  have hla:=OX.len hX.out
  have hlb:=OY.len hY.out
  have hx0:=OX.a.nonneg
  have hy0:=OY.a.nonneg
  by_cases hk:kb=0
  ·have hY0:=OY.zero_iff.1 hk
   subst hk
   have hE:X=(G:Nat):=by
    have:=hG.out
    rw [hY0,Int.gcd_zero_right] at this
    omega
   have HE:=(show Hid _ from hE)
   clear hE hY0
   go_wp2
   go_ret
   exact ⟨aa,ka,da,rfl,OX.eqv HE.out,hla,HB⟩
  ·have hY0:Y≠0:=fun e=>hk (OY.zero_iff.2 e)
   have HYN:=(show Hid _ from hY0)
   have hkp:(0:Int) < kb:=by omega
   have hMu:memVal wr (.slice ab kb db)=Y:=OY.mem
   have HMu:=(show Hid _ from hMu)
   clear hY0 hMu
   go_wp2_with fail
   refine (rDiv OX.a OY.a (by omega) (by omega) HYN.out).mono ?_
   rintro e w5 ⟨aq,kq,dq,ar,kr,dr,rfl,OQ,OR,hkq,hkr,hB⟩
   replace OY:=OY.keep hB
   have HBn:=joinB HB hB
   have hlt:=Int.emod_lt_of_pos X (show 0 < Y by have h0:Y≠0:=HYN.out; omega)
   have hge:=Int.emod_nonneg X HYN.out
   have hG':Int.gcd Y (X % Y)=G:=by rw [gcd_step X Y hx0 hy0]; exact hG.out
   have HG':=(show Hid _ from hG')
   have hY':=hY.out
   have hR':X % Y < 18446744073709551616 ^ (n + n'):=Int.lt_trans hlt hY'
   have HR':=(show Hid _ from hR')
   have hmu2:(memVal w5 (.slice ar kr dr)).toNat < (memVal wr (.slice ab kb db)).toNat:=by
    rw [OR.mem,HMu.out]; omega
   have HM2:=(show Hid _ from hmu2)
   clear hB HB hG' hY' hR' hmu2 hlt hge
   go_wp2
   all_goals exact ⟨⟨Y,_,_,_,_,_,_,_,rfl,rfl,OY,OR,HG',hY,HR',HBn⟩,HM2.out⟩
theorem pow_lim (j:Nat):(10:Int) ^ j < 18446744073709551616 ^ (j + 1):=by
 have h1:((10 ^ j:Nat):Int)=(10:Int) ^ j:=by rw [Int.natCast_pow]; rfl
 have h2:((18446744073709551616 ^ (j + 1):Nat):Int)=(18446744073709551616:Int) ^ (j + 1):=by rw [Int.natCast_pow]; rfl
 have h3:10 ^ j<=18446744073709551616 ^ j:=Nat.pow_le_pow_left (by decide) j
 have h4:18446744073709551616 ^ j < 18446744073709551616 ^ (j + 1):=Nat.pow_lt_pow_right (by decide) (by omega)
 omega
theorem rPow {w:World} (N:Nat) (hN:N<=4096) :
  Calls Tryz.prog 76 #[.int .i64 N] w fun e w'=>∃ a k d,e=.returned (.tuple #[.slice a k d,.int .i64 0])/\NatO w' a k d (10 ^ N)/\k<=N + 1/\Below w.heap.size w w':=by
 have hb0:decide ((N:Int) < 0)=false:=by simp
 have hb1:decide (4096 < (N:Int))=false:=by simp; omega
 go_enter Tryz.func76,Tryz.ntmps76
 go_wp2_with fail
 refine (rOf (x:=1) (by decide) (by decide)).mono ?_
 rintro e w1 ⟨a1,k1,d1,rfl,O1,hk1,HB⟩
 go_wp2_with fail
 go_loopw [0,4] (fun tn tz wr=>∃ (k m:Nat) (a:Option Addr) (kz dz:Nat),tn=.int .i64 k/\9 * m + k=N/\tz=.slice a kz dz/\NatO wr a kz dz (10 ^ (9 * m))/\Below w.heap.size w wr) (fun tn _ _=>(intOf tn).toNat)
 case atStart=>exact ⟨N,0,a1,k1,d1,rfl,by omega,rfl,O1,HB⟩
 case round =>
  clear O1 HB hb0 hb1
  obtain ⟨k,m,a,kz,dz,rfl,hkm,rfl,OZ,HB⟩:=hrel
  have hlz:=OZ.len (pow_lim _)
  by_cases h9:9<=k
  ·have h9':(9:Int)<=k:=by omega
   have hkm1:k<=N:=by omega
   have hm1:m<=N:=by omega
   have HKM:Hid (9 * (m + 1) + (k - 9)=N):=(show 9 * (m + 1) + (k - 9)=N by omega)
   clear hkm
   go_wp2_with fail
   refine (rOf (x:=1000000000) (by decide) (by decide)).mono ?_
   rintro e w3 ⟨a3,k3,d3,rfl,O3,hk3,hB⟩
   replace OZ:=OZ.keep hB
   replace HB:=joinB HB hB
   clear hB
   go_wp2_with fail
   refine (rMul OZ.a O3.a (by omega) (by omega)).mono ?_
   rintro e w4 ⟨a4,k4,d4,rfl,O4,hk4,hB⟩
   replace HB:=joinB HB hB
   clear hB
   have O5:=O4.eqv (y:=10 ^ (9 * (m + 1))) (by rw [show 9 * (m + 1)=9 * m + 9 from by omega,Int.pow_add]; rfl)
   clear O4 O3 OZ
   go_wp2
   all_goals
    go_roundw
    case rel=>exact ⟨k - 9,m + 1,a4,k4,d4,by go_num,HKM.out,rfl,O5,HB⟩
    case measure=>simp [intOf]; omega
  ·have h9':(k:Int) < 9:=by omega
   go_wp2_with fail
   go_loopw [0,4] (fun tn tz wr=>∃ (k j:Nat) (a:Option Addr) (kz dz:Nat),tn=.int .i64 k/\j + k=N/\tz=.slice a kz dz/\NatO wr a kz dz (10 ^ j)/\Below w.heap.size w wr) (fun tn _ _=>(intOf tn).toNat)
   case atStart=>exact ⟨k,9 * m,a,kz,dz,rfl,hkm,rfl,OZ,HB⟩
   case round =>
    clear OZ HB hlz hkm h9' h9
    obtain ⟨k,j,a,kz,dz,rfl,hkj,rfl,OZ,HB⟩:=hrel
    have hlz:=OZ.len (pow_lim _)
    by_cases h0:0 < k
    ·have h0':(0:Int) < k:=by omega
     have hj1:j<=N:=by omega
     have HKM:Hid (j + 1 + (k - 1)=N):=(show j + 1 + (k - 1)=N by omega)
     have hk1:k<=N:=by omega
     clear hkj
     go_wp2_with fail
     refine (rOf (x:=10) (by decide) (by decide)).mono ?_
     rintro e w3 ⟨a3,k3,d3,rfl,O3,hk3,hB⟩
     replace OZ:=OZ.keep hB
     replace HB:=joinB HB hB
     clear hB
     go_wp2_with fail
     refine (rMul OZ.a O3.a (by omega) (by omega)).mono ?_
     rintro e w4 ⟨a4,k4,d4,rfl,O4,hk4,hB⟩
     replace HB:=joinB HB hB
     clear hB
     have O5:=O4.eqv (y:=10 ^ (j + 1)) (by rw [Int.pow_succ])
     clear O4 O3 OZ
     go_wp2
     all_goals
      go_roundw
      case rel=>exact ⟨k - 1,j + 1,a4,k4,d4,by go_num,HKM.out,rfl,O5,HB⟩
      case measure=>simp [intOf]; omega
    ·obtain rfl:k=0:=by omega
     obtain rfl:j=N:=by omega
     go_wp2
     go_ret2
     exact ⟨a,kz,dz,rfl,OZ,hlz,HB⟩
end
end Go.Proofs.YtlbndpkdkdgggaaGreatDoor
