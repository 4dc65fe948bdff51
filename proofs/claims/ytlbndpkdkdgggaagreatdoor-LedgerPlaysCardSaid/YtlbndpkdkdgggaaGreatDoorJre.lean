/- Several texts, joined: RatO, Rat8, Rat9, Rat4, Rat6, Rat5, Pairs, Split, Text, Shelf, App, Frac, Known, Places, Dec2, Mid, Dec4, DText, DParse, Dec3, DBasis. -/
import Derived.Test.YtlbndpkdkdgggaaGreatDoorJrd
import Derived.Test.YtlbndpkdkdgggaaGreatDoorJrc
import Derived.Laws.Tables
import Derived.Laws.Rows
import Derived.Laws.CopyOwn
import Derived.Test.YtlbndpkdkdgggaaGreatDoorJnb
import Derived.Lib.AppendStr
import Derived.Shelf.Strings.Trim
import Derived.Shelf.Strings.Search1
import Derived.Shelf.Strings.Search2
import Derived.Shelf.LaysM
import Derived.Shelf.Strings.Prefix
import Derived.Test.YtlbndpkdkdgggaaGreatDoorProg
import Derived.Shelf.Strconv.AppendUint10
import Derived.Test.YtlbndpkdkdgggaaGreatDoorJna
import Derived.Deep.RegionLaw
import Derived.Deep.RegionHeld3
set_option maxRecDepth 100000
set_option maxHeartbeats 8000000
namespace Go.Proofs.YtlbndpkdkdgggaaGreatDoor
open Go.RowKit Lim
theorem tog_back (p0 p1 q0 q1:Int):p0 * (q1 / (Int.gcd q0 q1:Nat)) * (Int.gcd q0 q1:Nat)=p0 * q1/\p1 * (q0 / (Int.gcd q0 q1:Nat)) * (Int.gcd q0 q1:Nat)=p1 * q0:=by
 rw [Int.mul_assoc,Int.ediv_mul_cancel (Int.gcd_dvd_right q0 q1),Int.mul_assoc,Int.ediv_mul_cancel (Int.gcd_dvd_left q0 q1)]
 exact ⟨rfl,rfl⟩
theorem tog_sum {p0 q0 x0 y0 p1 q1 x1 y1 : Int} (R0 : Red p0 q0 x0 y0) (R1 : Red p1 q1 x1 y1) :
    Red ((p0 * (q1 / (Int.gcd q0 q1 : Nat)) + p1 * (q0 / (Int.gcd q0 q1 : Nat))) / (Int.gcd (p0 * (q1 / (Int.gcd q0 q1 : Nat)) + p1 * (q0 / (Int.gcd q0 q1 : Nat))) (Int.gcd q0 q1 : Nat) : Nat))
      (q0 / (Int.gcd q0 q1 : Nat) * (q1 / (Int.gcd (p0 * (q1 / (Int.gcd q0 q1 : Nat)) + p1 * (q0 / (Int.gcd q0 q1 : Nat))) (Int.gcd q0 q1 : Nat) : Nat))) (x0 * y1 + x1 * y0) (y0 * y1) := by
  have hq0 := R0.d0
  have hq1 := R1.d0
  have e0 := R0.eq
  have e1 := R1.eq
  have hV : 0 ≤ p0 * (q1 / (Int.gcd q0 q1 : Nat)) + p1 * (q0 / (Int.gcd q0 q1 : Nat)) :=
    Int.add_nonneg (Int.mul_nonneg R0.n0 (Int.ediv_nonneg (by omega) (Int.natCast_nonneg _))) (Int.mul_nonneg R1.n0 (Int.ediv_nonneg (by omega) (Int.natCast_nonneg _)))
  obtain ⟨c, n, d, e⟩ := tog_red R0.n0 hq0 R0.co R1.n0 hq1 R1.co hV (.inl rfl)
  obtain ⟨b0, b1⟩ := tog_back p0 p1 q0 q1
  refine Red.cross (q := q0 * q1) ⟨n, d, c, e⟩ (Int.mul_pos hq0 hq1) ?_
  rw [Int.add_mul, b0, b1]
  calc (p0 * q1 + p1 * q0) * (y0 * y1) = p0 * y0 * (q1 * y1) + p1 * y1 * (q0 * y0) := by grind
    _ = x0 * q0 * (q1 * y1) + x1 * q1 * (q0 * y0) := by rw [e0, e1]
    _ = _ := by grind
theorem qStepR {w:World} {a0 b0:Option Addr} {n0 c0 m0 d0:Nat} {x0 y0:Int} {a1 b1:Option Addr} {n1 c1 m1 d1:Nat} {x1 y1 X Y:Int} (h0:NatA w a0 n0 c0 x0) (e0:NatA w b0 m0 d0 y0) (hn0:n0<=8589934592) (hm0:m0<=8589934592) (h1:NatA w a1 n1 c1 x1) (e1:NatA w b1 m1 d1 y1) (hn1:n1<=8589934592) (hm1:m1<=8589934592) (R:Red x0 y0 X Y) :
  Calls Tryz.prog 97 #[.agg #[.slice a0 n0 c0,.slice b0 m0 d0],.agg #[.slice a1 n1 c1,.slice b1 m1 d1]] w fun e w'=>∃ a k d a' k' d' N D,e=.returned (.agg #[.slice a k d,.slice a' k' d'])/\NatO w' a k d N/\NatO w' a' k' d' D/\Red N D (rstep (X,Y) (x1,y1)).1 (rstep (X,Y) (x1,y1)).2/\k<=n0 + n1 + m0 + m1 + 3/\k'<=m0 + m1 + 2/\Below w.heap.size w w':=by
 have R1:=red_of (cn_nonneg y1 h1.nonneg) (cd_pos e1.nonneg)
 have hd:=R.d0
 refine (qStep h0 e0 hn0 hm0 h1 e1 hn1 hm1 (by omega)).mono ?_
 rintro e w1 ⟨a,k,d,a',k',d',rfl,O1,O2,hk,hk',hB⟩
 exact ⟨a,k,d,a',k',d',_,_,rfl,O1,O2,tog_sum R R1,hk,hk',hB⟩
end Go.Proofs.YtlbndpkdkdgggaaGreatDoor
namespace Go.Proofs.YtlbndpkdkdgggaaGreatDoor
open Go.RowKit Lim
structure RatL (w:World) (ao:Option Addr) (l:List (Int × Int)) (B:Nat):Prop where
 get:∀ i (h:i < l.length),∃ b o a0 n0 c0 a1 n1 c1,ao=some ⟨b,o,none⟩/\w.cell? ⟨b,o + i * 2,none⟩=some (.slice a0 n0 c0)/\w.cell? ⟨b,o + i * 2 + 1,none⟩=some (.slice a1 n1 c1)/\NatA w a0 n0 c0 l[i].1/\NatA w a1 n1 c1 l[i].2/\n0<=B/\n1<=B
theorem RatL.keep {w w':World} {ao:Option Addr} {l:List (Int × Int)} {B:Nat} (h:RatL w ao l B) (hb:Below w.heap.size w w'):RatL w' ao l B:=⟨fun i hi=>by
 obtain ⟨b,o,a0,n0,c0,a1,n1,c1,h1,h2,h3,h4,h5,h6,h7⟩:=h.get i hi
 exact ⟨b,o,a0,n0,c0,a1,n1,c1,h1,by rw [hb.cell (p:=⟨b,o + i * 2,none⟩) (cell_lt h2)]; exact h2,by rw [hb.cell (p:=⟨b,o + i * 2 + 1,none⟩) (cell_lt h3)]; exact h3,h4.keep hb,h5.keep hb,h6,h7⟩⟩
theorem qFold {w:World} {ao:Option Addr} {n c:Nat} {l:List (Int × Int)} {B:Nat} (hl:l.length=n) (hW:n * (2 * B + 4 + n * (B + 2))<=8589934592) (h:RatL w ao l B) (hlB:n * (B + 2)<=8589934000) (hb:B<=8589934592) (hn:n<=1099511627776) :
  Calls Tryz.prog 96 #[.func (.func 97) #[] #[],.slice ao n c] w fun e w'=>∃ a k d a' k' d' N D,e=.returned (.agg #[.slice a k d,.slice a' k' d'])/\NatO w' a k d N/\NatO w' a' k' d' D/\Red N D (rsum l).1 (rsum l).2/\k<=n * (2 * B + 4 + n * (B + 2))/\k'<=1 + n * (B + 2)/\Below w.heap.size w w':=by
 have HB:=below_alloc w (.cells #[.slice none 0 0,.slice none 0 0] 40)
 have X4:=box_new w [.slice none 0 0,.slice none 0 0] 40
 replace h:=h.keep HB
 go_enter Tryz.func96,Tryz.ntmps96
 go_wp2_with fail
 refine (qOfNat (natO_nil _).a (by omega)).mono ?_
 rintro e w1 ⟨A,K,D,A',K',D',rfl,O1,O2,hk,hk',hB⟩
 replace X4:=X4.keep hB
 replace h:=h.keep hB
 replace HB:=joinB HB hB
 have hg4:=X4.lt
 clear hB
 have BA:=below_alloc w1 (.cells #[.slice A K D,.slice A' K' D'] 40)
 have X5:=box_new w1 [.slice A K D,.slice A' K' D'] 40
 replace O1:=O1.keep BA
 replace O2:=O2.keep BA
 go_wp2_with fail
 go_loopw [11] (fun ti wr=>∃ (k:Nat) (P:Option Addr) (L M:Nat) (P':Option Addr) (L' M':Nat) (N Q:Int),k<=n/\ti=.int .i64 k/\Box wr w1.heap.size [.slice P L M,.slice P' L' M'] 40/\NatO wr P L M N/\NatO wr P' L' M' Q/\Hid (Red N Q (rsum (l.take k)).1 (rsum (l.take k)).2)/\Hid (L<=k * (2 * B + 4 + n * (B + 2)))/\Hid (L'<=1 + k * (B + 2))/\Below w1.heap.size w1 wr) (fun ti _=>n - (intOf ti).toNat)
 case atStart=>exact ⟨0,A,K,D,A',K',D',0,1,Nat.zero_le _,rfl,X5,O1,O2,⟨by decide,by decide,by decide,by simp [rsum]⟩,(show K<=0 * _ by omega),(show K'<=1 + 0 * _ by omega),BA⟩
 case round =>
  clear BA X5 O1 O2 hk hk'
  obtain ⟨k,P,L,M,P',L',M',N,Q,hk,rfl,X5,N1,N2,HR,hL,hL',BW⟩:=hrel
  by_cases hlt:k < n
  ·have hi:k < l.length:=by omega
   obtain ⟨b,o,a0,n0,c0,a1,n1,c1,rfl,q1,q2,E1,E2,hn0,hn1⟩:=(h.keep BW).get k hi
   have HS:Hid (rsum (l.take (k + 1))=rstep (rsum (l.take k)) l[k]):=rsum_step l k hi
   have hk0:(k:Int) < n:=by omega
   have w1':=Nat.mul_le_mul_right (B + 2) hk
   have w2':=Nat.mul_le_mul_right (2 * B + 4 + n * (B + 2)) hk
   have w3':=Nat.succ_mul k (B + 2)
   have w4':=Nat.succ_mul k (2 * B + 4 + n * (B + 2))
   have w5':=hL.out
   have w6':=hL'.out
   have hLb:L<=8589934592:=by omega
   have hLb':L'<=8589934592:=by omega
   have HW1:Hid (∀ G,G<=L + n0 + L' + n1 + 3->G<=(k + 1) * (2 * B + 4 + n * (B + 2))):=fun G hG=>by
    rw [show k + 1=k.succ from rfl,w4']; omega
   have HW2:Hid (∀ G,G<=L' + n1 + 2->G<=1 + (k + 1) * (B + 2)):=fun G hG=>by
    rw [show k + 1=k.succ from rfl,w3']; omega
   clear w1' w2' w3' w4' w5' w6' hL hL'
   generalize l[k]=ev at *
   obtain ⟨x1,y1⟩:=ev
   have BE:=below_alloc wr (.cells #[.slice a0 n0 c0,.slice a1 n1 c1] 40)
   have XE:=box_new wr [.slice a0 n0 c0,.slice a1 n1 c1] 40
   replace X5:=X5.keep BE
   replace N1:=N1.keep BE
   replace N2:=N2.keep BE
   replace E1:=E1.keep BE
   replace E2:=E2.keep BE
   replace BW:=joinB BW BE
   obtain ⟨j1,j2,j3,j4⟩:=X5.cells2
   obtain ⟨i1,i2,i3,i4⟩:=XE.cells2
   go_wp2_with fail
   refine (qStepR N1.a N2.a (by omega) (by omega) E1 E2 (by omega) (by omega) HR.out).mono ?_
   rintro e w2 ⟨F,G,H,F',G',H',N3,Q3,rfl,T1,T2,R3,hG,hG',hB⟩
   have HR3:Hid (Red N3 Q3 (rsum (l.take (k + 1))).1 (rsum (l.take (k + 1))).2):=by
    show Red _ _ _ _
    rw [HS.out]; exact R3
   clear j1 j2 j3 j4 i1 i2 i3 i4 N1 N2 E1 E2 XE BE q1 q2 R3 HS HR
   replace X5:=X5.keep hB
   replace BW:=joinB BW hB
   obtain ⟨j1,j2,j3,j4⟩:=X5.cells2
   have S2:=X5.put2 (.slice F G H) (.slice F' G' H')
   have Q1:=T1.put2 X5 (.slice F G H) (.slice F' G' H')
   have Q2:=T2.put2 X5 (.slice F G H) (.slice F' G' H')
   have BW2:=below_put2 BW (g:=w1.heap.size) (Nat.le_refl _) (.slice F G H) (.slice F' G' H')
   clear hB T1 T2 X5 BW
   go_wp2
   go_roundw
   case rel=>exact ⟨k + 1,F,G,H,F',G',H',N3,Q3,by omega,by go_num,S2,Q1,Q2,HR3,HW1.out _ hG,HW2.out _ hG',BW2⟩
   case measure=>simp [intOf]; omega
  ·have hkn:k=n:=by omega
   subst hkn
   have HR3:Hid (Red N Q (rsum l).1 (rsum l).2):=by
    have h3:=HR.out
    rw [List.take_of_length_le (by omega)] at h3
    exact h3
   clear HR
   have hX4:=X4.keep BW
   obtain ⟨j1,j2,j3,j4⟩:=X5.cells2
   obtain ⟨i1,i2,i3,i4⟩:=hX4.cells2
   have S2:=hX4.put2 (.slice P L M) (.slice P' L' M')
   have Q1:=N1.put2 hX4 (.slice P L M) (.slice P' L' M')
   have Q2:=N2.put2 hX4 (.slice P L M) (.slice P' L' M')
   have HB2:=below_put2 (joinB HB BW) (g:=w.heap.size) (Nat.le_refl _) (.slice P L M) (.slice P' L' M')
   clear N1 N2 X4 hX4 X5 HB BW
   go_wp2
   refine bodyPost_ret (ret_rat rfl rfl S2) rfl ?_
   exact ⟨P,L,M,P',L',M',N,Q,rfl,Q1,Q2,HR3.out,hL.out,hL'.out,HB2⟩
theorem qSum {w:World} {ao:Option Addr} {n c:Nat} {l:List (Int × Int)} {B:Nat} (hl:l.length=n) (hW:n * (2 * B + 4 + n * (B + 2))<=8589934592) (h:RatL w ao l B) (hlB:n * (B + 2)<=8589934000) (hb:B<=8589934592) (hn:n<=1099511627776) :
  Calls Tryz.prog 58 #[.slice ao n c] w fun e w'=>∃ a k d a' k' d' N D,e=.returned (.agg #[.slice a k d,.slice a' k' d'])/\NatO w' a k d N/\NatO w' a' k' d' D/\Red N D (rsum l).1 (rsum l).2/\k<=n * (2 * B + 4 + n * (B + 2))/\k'<=1 + n * (B + 2)/\Below w.heap.size w w':=by
 have HB:=below_alloc w (.cells #[.slice none 0 0,.slice none 0 0] 40)
 have X4:=box_new w [.slice none 0 0,.slice none 0 0] 40
 replace h:=h.keep HB
 go_enter Tryz.func58,Tryz.ntmps58
 go_wp2_with fail
 refine (qFold hl hW h hlB hb hn).mono ?_
 rintro e w1 ⟨P,L,M,P',L',M',N,Q,rfl,N1,N2,R3,hL,hL',hB⟩
 have HR:=(show Hid _ from R3)
 clear R3
 replace X4:=X4.keep hB
 replace HB:=joinB HB hB
 obtain ⟨i1,i2,i3,i4⟩:=X4.cells2
 have S2:=X4.put2 (.slice P L M) (.slice P' L' M')
 have Q1:=N1.put2 X4 (.slice P L M) (.slice P' L' M')
 have Q2:=N2.put2 X4 (.slice P L M) (.slice P' L' M')
 have HB2:=below_put2 HB (g:=w.heap.size) (Nat.le_refl _) (.slice P L M) (.slice P' L' M')
 clear N1 N2 X4 HB hB h
 go_wp2
 refine bodyPost_ret (ret_rat rfl rfl S2) rfl ?_
 exact ⟨P,L,M,P',L',M',N,Q,rfl,Q1,Q2,HR.out,hL,hL',HB2⟩
theorem ratl_two {w:World} {g:Nat} {t:TypeId} {B:Nat} {a0 b0:Option Addr} {n0 c0 m0 d0:Nat} {x0 y0:Int} {a1 b1:Option Addr} {n1 c1 m1 d1:Nat} {x1 y1:Int} (hB:Box w g [.slice a0 n0 c0,.slice b0 m0 d0,.slice a1 n1 c1,.slice b1 m1 d1] t) (h0:NatA w a0 n0 c0 x0) (e0:NatA w b0 m0 d0 y0) (h1:NatA w a1 n1 c1 x1) (e1:NatA w b1 m1 d1 y1) (hn0:n0<=B) (hm0:m0<=B) (hn1:n1<=B) (hm1:m1<=B) :
  RatL w (some ⟨g,0,none⟩) [(x0,y0),(x1,y1)] B:=⟨fun i hi=>by
 have hb:=hB.blk
 match i,hi with
 | 0,_=>exact ⟨g,0,a0,n0,c0,b0,m0,d0,rfl,by simp [World.cell?,hb],by simp [World.cell?,hb],h0,e0,hn0,hm0⟩
 | 1,_=>exact ⟨g,0,a1,n1,c1,b1,m1,d1,rfl,by simp [World.cell?,hb],by simp [World.cell?,hb],h1,e1,hn1,hm1⟩⟩
theorem qAdd {w:World} {B:Nat} {a0 b0:Option Addr} {n0 c0 m0 d0:Nat} {x0 y0:Int} {a1 b1:Option Addr} {n1 c1 m1 d1:Nat} {x1 y1:Int} (h0:NatA w a0 n0 c0 x0) (e0:NatA w b0 m0 d0 y0) (hn0:n0<=B) (hm0:m0<=B) (h1:NatA w a1 n1 c1 x1) (e1:NatA w b1 m1 d1 y1) (hn1:n1<=B) (hm1:m1<=B) (hb:B<=1000000000) :
  Calls Tryz.prog 52 #[.agg #[.slice a0 n0 c0,.slice b0 m0 d0],.agg #[.slice a1 n1 c1,.slice b1 m1 d1]] w fun e w'=>∃ a k d a' k' d' N D,e=.returned (.agg #[.slice a k d,.slice a' k' d'])/\NatO w' a k d N/\NatO w' a' k' d' D/\Red N D (rsum [(x0,y0),(x1,y1)]).1 (rsum [(x0,y0),(x1,y1)]).2/\k<=8 * B + 16/\k'<=2 * B + 5/\Below w.heap.size w w':=by
 have HB:=below3 w (.cells #[.slice a0 n0 c0,.slice b0 m0 d0] 40) (.cells #[.slice a1 n1 c1,.slice b1 m1 d1] 40) (.cells #[.slice none 0 0,.slice none 0 0] 40)
 have P0:=((box_new w [.slice a0 n0 c0,.slice b0 m0 d0] 40).keep (below_alloc _ (.cells #[.slice a1 n1 c1,.slice b1 m1 d1] 40))).keep (below_alloc _ (.cells #[.slice none 0 0,.slice none 0 0] 40))
 have P1:=(box_new (w.alloc (.cells #[.slice a0 n0 c0,.slice b0 m0 d0] 40)) [.slice a1 n1 c1,.slice b1 m1 d1] 40).keep (below_alloc _ (.cells #[.slice none 0 0,.slice none 0 0] 40))
 have X4:=box_new ((w.alloc (.cells #[.slice a0 n0 c0,.slice b0 m0 d0] 40)).alloc (.cells #[.slice a1 n1 c1,.slice b1 m1 d1] 40)) [.slice none 0 0,.slice none 0 0] 40
 rw [show (w.alloc (.cells #[.slice a0 n0 c0,.slice b0 m0 d0] 40)).heap.size=w.heap.size + 1 by simp] at P1
 rw [show ((w.alloc (.cells #[.slice a0 n0 c0,.slice b0 m0 d0] 40)).alloc (.cells #[.slice a1 n1 c1,.slice b1 m1 d1] 40)).heap.size=w.heap.size + 1 + 1 by simp] at X4
 replace h0:=h0.keep HB
 replace e0:=e0.keep HB
 replace h1:=h1.keep HB
 replace e1:=e1.keep HB
 obtain ⟨j1,j2,j3,j4⟩:=P0.cells2
 obtain ⟨i1,i2,i3,i4⟩:=P1.cells2
 have BA:=below_alloc (((w.alloc (.cells #[.slice a0 n0 c0,.slice b0 m0 d0] 40)).alloc (.cells #[.slice a1 n1 c1,.slice b1 m1 d1] 40)).alloc (.cells #[.slice none 0 0,.slice none 0 0] 40)) (.cells #[.slice a0 n0 c0,.slice b0 m0 d0,.slice a1 n1 c1,.slice b1 m1 d1] 40)
 have XL:=box_new (((w.alloc (.cells #[.slice a0 n0 c0,.slice b0 m0 d0] 40)).alloc (.cells #[.slice a1 n1 c1,.slice b1 m1 d1] 40)).alloc (.cells #[.slice none 0 0,.slice none 0 0] 40)) [.slice a0 n0 c0,.slice b0 m0 d0,.slice a1 n1 c1,.slice b1 m1 d1] 40
 rw [show (((w.alloc (.cells #[.slice a0 n0 c0,.slice b0 m0 d0] 40)).alloc (.cells #[.slice a1 n1 c1,.slice b1 m1 d1] 40)).alloc (.cells #[.slice none 0 0,.slice none 0 0] 40)).heap.size=w.heap.size + 1 + 1 + 1 by simp] at XL
 have RL:=ratl_two XL (h0.keep BA) (e0.keep BA) (h1.keep BA) (e1.keep BA) hn0 hm0 hn1 hm1
 replace HB:=joinB HB BA
 replace X4:=X4.keep BA
 clear h0 e0 h1 e1 XL BA
 go_enter Tryz.func52,Tryz.ntmps52
 go_wp2_with fail
 refine (qSum (l:=[(x0,y0),(x1,y1)]) (n:=2) rfl (by omega) RL (by omega) (by omega) (by omega)).mono ?_
 rintro e w1 ⟨P,L,M,P',L',M',N,Q,rfl,N1,N2,R3,hL,hL',hB⟩
 have HR:=(show Hid _ from R3)
 clear R3 j1 j2 j3 j4 i1 i2 i3 i4 P0 P1
 replace X4:=X4.keep hB
 replace HB:=joinB HB hB
 obtain ⟨i1,i2,i3,i4⟩:=X4.cells2
 have S2:=X4.put2 (.slice P L M) (.slice P' L' M')
 have Q1:=N1.put2 X4 (.slice P L M) (.slice P' L' M')
 have Q2:=N2.put2 X4 (.slice P L M) (.slice P' L' M')
 have HB2:=below_put2 HB (g:=w.heap.size + 1 + 1) (by omega) (.slice P L M) (.slice P' L' M')
 clear N1 N2 X4 HB hB RL
 go_wp2
 refine bodyPost_ret (ret_rat rfl rfl S2) rfl ?_
 exact ⟨P,L,M,P',L',M',N,Q,rfl,Q1,Q2,HR.out,by omega,by omega,HB2⟩
end Go.Proofs.YtlbndpkdkdgggaaGreatDoor
namespace Go.Proofs.YtlbndpkdkdgggaaGreatDoor
open Go.RowKit Lim
theorem qSame {w:World} {a0 b0:Option Addr} {n0 c0 m0 d0:Nat} {x0 y0:Int} {a1 b1:Option Addr} {n1 c1 m1 d1:Nat} {x1 y1:Int} (h0:NatO w a0 n0 c0 x0) (e0:NatO w b0 m0 d0 y0) (hn0:n0<=4398046511104) (hm0:m0<=4398046511104) (h1:NatO w a1 n1 c1 x1) (e1:NatO w b1 m1 d1 y1) (hn1:n1<=4398046511104) (hm1:m1<=4398046511104) :
  Calls Tryz.prog 16 #[.agg #[.slice a0 n0 c0,.slice b0 m0 d0],.agg #[.slice a1 n1 c1,.slice b1 m1 d1]] w fun e w'=>e=.returned (.bool (decide (x0=x1/\y0=y1)))/\Below w.heap.size w w':=by
 have HB:=below2 w (.cells #[.slice a0 n0 c0,.slice b0 m0 d0] 40) (.cells #[.slice a1 n1 c1,.slice b1 m1 d1] 40)
 have P0:=(box_new w [.slice a0 n0 c0,.slice b0 m0 d0] 40).keep (below_alloc _ (.cells #[.slice a1 n1 c1,.slice b1 m1 d1] 40))
 have P1:=box_new (w.alloc (.cells #[.slice a0 n0 c0,.slice b0 m0 d0] 40)) [.slice a1 n1 c1,.slice b1 m1 d1] 40
 rw [show (w.alloc (.cells #[.slice a0 n0 c0,.slice b0 m0 d0] 40)).heap.size=w.heap.size + 1 by simp] at P1
 replace h0:=h0.keep HB
 replace e0:=e0.keep HB
 replace h1:=h1.keep HB
 replace e1:=e1.keep HB
 obtain ⟨j1,j2,j3,j4⟩:=P0.cells2
 obtain ⟨i1,i2,i3,i4⟩:=P1.cells2
 have t:=nSame h0 h1 hn0 hn1
 by_cases hx:x0=x1
 ·rw [decide_eq_true hx] at t
  rw [show decide (x0=x1/\y0=y1)=decide (y0=y1) from decide_eq_decide.2 ⟨fun h=>h.2,fun h=>⟨hx,h⟩⟩]
  clear hx
  go_enter Tryz.func16,Tryz.ntmps16
  go_wp2_with fail
  refine t.mono ?_
  rintro e w1 ⟨rfl,hB⟩
  replace e0:=e0.keep hB
  replace e1:=e1.keep hB
  replace P0:=P0.keep hB
  replace P1:=P1.keep hB
  replace HB:=joinB HB hB
  clear hB t j1 j2 j3 j4 i1 i2 i3 i4 h0 h1
  obtain ⟨j1,j2,j3,j4⟩:=P0.cells2
  obtain ⟨i1,i2,i3,i4⟩:=P1.cells2
  go_wp2_with fail
  refine (nSame e0 e1 hm0 hm1).mono ?_
  rintro e w2 ⟨rfl,hB⟩
  go_wp2
  go_ret
  exact ⟨rfl,joinB HB hB⟩
 ·rw [decide_eq_false hx] at t
  rw [decide_eq_false (fun h=>hx h.1)]
  clear hx
  go_enter Tryz.func16,Tryz.ntmps16
  go_wp2_with fail
  refine t.mono ?_
  rintro e w1 ⟨rfl,hB⟩
  clear t
  go_wp2
  go_ret
  exact ⟨rfl,joinB HB hB⟩
end Go.Proofs.YtlbndpkdkdgggaaGreatDoor
namespace Go.Proofs.YtlbndpkdkdgggaaGreatDoor
open Go.RowKit Lim
theorem qZero {w:World} {ao ao':Option Addr} {n c n' c':Nat} {x y:Int} (h:NatA w ao n c x) (h':NatA w ao' n' c' y) (hn:n<=1099511627776) (hn':n'<=1099511627776) :
  Calls Tryz.prog 40 #[.agg #[.slice ao n c,.slice ao' n' c']] w fun e w'=>e=.returned (.bool (decide (x=0\/y=0)))/\Below w.heap.size w w':=by
 have B0:=below_alloc w (.cells #[.slice ao n c,.slice ao' n' c'] 40)
 have SP:=box_new w [.slice ao n c,.slice ao' n' c'] 40
 replace h:=h.keep B0
 replace h':=h'.keep B0
 obtain ⟨p1,p2,p3,p4⟩:=SP.cells2
 have t:=nBits h hn
 have hm:=bitLen_zero x h.nonneg
 by_cases hx:x=0
 ·have hm:=hm.2 hx
  rw [hm] at t
  rw [decide_eq_true (Or.inl hx)]
  clear hm hx h
  go_enter Tryz.func40,Tryz.ntmps40
  go_wp2_with fail
  refine t.mono ?_
  rintro e w1 ⟨rfl,hB⟩
  go_wp2
  go_ret
  exact ⟨rfl,joinB B0 hB⟩
 ·have hm1:bitLen x.toNat≠0:=fun e=>hx (hm.1 e)
  clear hm
  generalize bitLen x.toNat=m at *
  obtain ⟨j,rfl⟩:∃ j,m=j + 1:=⟨m - 1,by omega⟩
  clear hm1
  have hz:=bitLen_zero y h'.nonneg
  by_cases hy:y=0
  ·have hz:=hz.2 hy
   rw [decide_eq_true (Or.inr hy)]
   clear hx hy h
   go_enter Tryz.func40,Tryz.ntmps40
   go_wp2_with fail
   refine t.mono ?_
   rintro e w1 ⟨rfl,hB⟩
   have t':=nBits (h'.keep hB) hn'
   rw [hz] at t'
   replace SP:=SP.keep hB
   replace B0:=joinB B0 hB
   obtain ⟨p1,p2,p3,p4⟩:=SP.cells2
   clear hB t hz h'
   go_wp2_with fail
   refine t'.mono ?_
   rintro e w2 ⟨rfl,hB⟩
   clear t'
   go_wp2
   go_ret
   exact ⟨rfl,joinB B0 hB⟩
  ·have hz1:bitLen y.toNat≠0:=fun e=>hy (hz.1 e)
   rw [decide_eq_false (fun h=>h.elim hx hy)]
   clear hx hy h hz
   generalize hq:bitLen y.toNat=q at *
   obtain ⟨i,rfl⟩:∃ i,q=i + 1:=⟨q - 1,by omega⟩
   clear hz1
   go_enter Tryz.func40,Tryz.ntmps40
   go_wp2_with fail
   refine t.mono ?_
   rintro e w1 ⟨rfl,hB⟩
   have t':=nBits (h'.keep hB) hn'
   rw [hq] at t'
   replace SP:=SP.keep hB
   replace B0:=joinB B0 hB
   obtain ⟨p1,p2,p3,p4⟩:=SP.cells2
   clear hB t hq h'
   go_wp2_with fail
   refine t'.mono ?_
   rintro e w2 ⟨rfl,hB⟩
   clear t'
   go_wp2
   go_ret
   refine ⟨?_,joinB B0 hB⟩
   congr 2
end Go.Proofs.YtlbndpkdkdgggaaGreatDoor
namespace Go.Proofs.YtlbndpkdkdgggaaGreatDoor
open Go.RowKit Lim
theorem qQuoZ {w:World} {v:Value} {u1 u2:Value} {a1 b1:Option Addr} {n1 c1 m1 d1:Nat} {x1 y1:Int} (hv:v=.agg #[u1,u2]) (h1:NatA w a1 n1 c1 x1) (e1:NatA w b1 m1 d1 y1) (hn1:n1<=34359738368) (hm1:m1<=34359738368) (hz:x1=0\/y1=0) :
  Calls Tryz.prog 35 #[v,.agg #[.slice a1 n1 c1,.slice b1 m1 d1]] w fun e w'=>e=.returned (.tuple #[.agg #[.slice none 0 0,.slice none 0 0],.int .i64 30])/\Below w.heap.size w w':=by
 subst hv
 have HB:=below3 w (.cells #[u1,u2] 40) (.cells #[.slice a1 n1 c1,.slice b1 m1 d1] 40) (.cells #[.slice none 0 0,.slice none 0 0] 40)
 have P1:=(box_new (w.alloc (.cells #[u1,u2] 40)) [.slice a1 n1 c1,.slice b1 m1 d1] 40).keep (below_alloc _ (.cells #[.slice none 0 0,.slice none 0 0] 40))
 have X4:=box_new ((w.alloc (.cells #[u1,u2] 40)).alloc (.cells #[.slice a1 n1 c1,.slice b1 m1 d1] 40)) [.slice none 0 0,.slice none 0 0] 40
 rw [show (w.alloc (.cells #[u1,u2] 40)).heap.size=w.heap.size + 1 by simp] at P1
 rw [show ((w.alloc (.cells #[u1,u2] 40)).alloc (.cells #[.slice a1 n1 c1,.slice b1 m1 d1] 40)).heap.size=w.heap.size + 1 + 1 by simp] at X4
 replace h1:=h1.keep HB
 replace e1:=e1.keep HB
 have t:=qZero h1 e1 (by omega) (by omega)
 rw [decide_eq_true hz] at t
 clear hz
 have hld:=load_rat P1
 go_enter Tryz.func35,Tryz.ntmps35
 go_wp2_with fail
 refine t.mono ?_
 rintro e w1 ⟨rfl,hB⟩
 replace X4:=X4.keep hB
 replace HB:=joinB HB hB
 obtain ⟨k1,k2,k3,k4⟩:=X4.cells2
 have S2:=X4.put2 (.slice none 0 0) (.slice none 0 0)
 have HB2:=below_put2 HB (g:=w.heap.size + 1 + 1) (by omega) (.slice none 0 0) (.slice none 0 0)
 clear hB t h1 e1 P1 X4 HB hld
 go_wp2
 refine bodyPost_ret (ret_rat_tmp rfl rfl rfl S2) rfl ?_
 exact ⟨rfl,HB2⟩
theorem qQuo {w:World} {a0 b0:Option Addr} {n0 c0 m0 d0:Nat} {x0 y0:Int} {a1 b1:Option Addr} {n1 c1 m1 d1:Nat} {x1 y1:Int} (h0:NatA w a0 n0 c0 x0) (e0:NatA w b0 m0 d0 y0) (hn0:n0<=34359738368) (hm0:m0<=34359738368) (h1:NatA w a1 n1 c1 x1) (e1:NatA w b1 m1 d1 y1) (hn1:n1<=34359738368) (hm1:m1<=34359738368) (hx:x1≠0) (hy:y1≠0) :
  Calls Tryz.prog 35 #[.agg #[.slice a0 n0 c0,.slice b0 m0 d0],.agg #[.slice a1 n1 c1,.slice b1 m1 d1]] w fun e w'=>∃ a k d a' k' d',e=.returned (.tuple #[.agg #[.slice a k d,.slice a' k' d'],.int .i64 0])/\NatO w' a k d (rn (cn x0 y0 * cn y1 x1) (cd y0 * cd x1))/\NatO w' a' k' d' (rd (cn x0 y0 * cn y1 x1) (cd y0 * cd x1))/\k<=n0 + m1/\k'<=m0 + n1 + 2/\Below w.heap.size w w':=by
 have HB:=below3 w (.cells #[.slice a0 n0 c0,.slice b0 m0 d0] 40) (.cells #[.slice a1 n1 c1,.slice b1 m1 d1] 40) (.cells #[.slice none 0 0,.slice none 0 0] 40)
 have P0:=((box_new w [.slice a0 n0 c0,.slice b0 m0 d0] 40).keep (below_alloc _ (.cells #[.slice a1 n1 c1,.slice b1 m1 d1] 40))).keep (below_alloc _ (.cells #[.slice none 0 0,.slice none 0 0] 40))
 have P1:=(box_new (w.alloc (.cells #[.slice a0 n0 c0,.slice b0 m0 d0] 40)) [.slice a1 n1 c1,.slice b1 m1 d1] 40).keep (below_alloc _ (.cells #[.slice none 0 0,.slice none 0 0] 40))
 have X4:=box_new ((w.alloc (.cells #[.slice a0 n0 c0,.slice b0 m0 d0] 40)).alloc (.cells #[.slice a1 n1 c1,.slice b1 m1 d1] 40)) [.slice none 0 0,.slice none 0 0] 40
 rw [show (w.alloc (.cells #[.slice a0 n0 c0,.slice b0 m0 d0] 40)).heap.size=w.heap.size + 1 by simp] at P1
 rw [show ((w.alloc (.cells #[.slice a0 n0 c0,.slice b0 m0 d0] 40)).alloc (.cells #[.slice a1 n1 c1,.slice b1 m1 d1] 40)).heap.size=w.heap.size + 1 + 1 by simp] at X4
 replace h0:=h0.keep HB
 replace e0:=e0.keep HB
 replace h1:=h1.keep HB
 replace e1:=e1.keep HB
 have t:=qZero h1 e1 (by omega) (by omega)
 rw [decide_eq_false (fun h=>h.elim hx hy)] at t
 clear hx hy
 have hld:=load_rat P1
 go_enter Tryz.func35,Tryz.ntmps35
 go_wp2_with fail
 refine t.mono ?_
 rintro e w1 ⟨rfl,hB⟩
 replace h0:=h0.keep hB
 replace e0:=e0.keep hB
 replace h1:=h1.keep hB
 replace e1:=e1.keep hB
 replace P0:=P0.keep hB
 replace P1:=P1.keep hB
 replace X4:=X4.keep hB
 replace HB:=joinB HB hB
 clear hB t hld
 obtain ⟨k1,k2,k3,k4⟩:=P1.cells2
 obtain ⟨j1,j2,j3,j4⟩:=P0.cells2
 go_wp2_with fail
 refine (qMul h0 e0 (by omega) (by omega) e1 h1 (by omega) (by omega)).mono ?_
 rintro e w2 ⟨a,k,d,a',k',d',rfl,O1,O2,hk,hk',hB⟩
 clear k1 k2 k3 k4 j1 j2 j3 j4 P0 P1 h0 e0 h1 e1
 replace X4:=X4.keep hB
 replace HB:=joinB HB hB
 obtain ⟨k1,k2,k3,k4⟩:=X4.cells2
 have S2:=X4.put2 (.slice a k d) (.slice a' k' d')
 have Q1:=O1.put2 X4 (.slice a k d) (.slice a' k' d')
 have Q2:=O2.put2 X4 (.slice a k d) (.slice a' k' d')
 have HB2:=below_put2 HB (g:=w.heap.size + 1 + 1) (by omega) (.slice a k d) (.slice a' k' d')
 clear hB O1 O2 X4 HB
 go_wp2
 refine bodyPost_ret (ret_rat_tmp rfl rfl rfl S2) rfl ?_
 exact ⟨a,k,d,a',k',d',rfl,Q1,Q2,by omega,by omega,HB2⟩
end Go.Proofs.YtlbndpkdkdgggaaGreatDoor
namespace Go.Proofs.YtlbndpkdkdgggaaGreatDoor
open Go.RowKit Lim
theorem qOfDec {w:World} {ao:Option Addr} {n c:Nat} {x:Int} (h:NatA w ao n c x) (hn:n<=274877906944) :
  Calls Tryz.prog 36 #[.agg #[.slice ao n c]] w fun e w'=>∃ a k d a' k' d',e=.returned (.agg #[.slice a k d,.slice a' k' d'])/\NatO w' a k d (rn x U36)/\NatO w' a' k' d' (rd x U36)/\k<=n/\k'<=39/\Below w.heap.size w w':=by
 have HB:=below2 w (.cells #[.slice ao n c] 35) (.cells #[.slice none 0 0,.slice none 0 0] 40)
 have PX:=(box_new w [.slice ao n c] 35).keep (below_alloc _ (.cells #[.slice none 0 0,.slice none 0 0] 40))
 have X4:=box_new (w.alloc (.cells #[.slice ao n c] 35)) [.slice none 0 0,.slice none 0 0] 40
 rw [show (w.alloc (.cells #[.slice ao n c] 35)).heap.size=w.heap.size + 1 by simp] at X4
 replace h:=h.keep HB
 go_enter Tryz.func36,Tryz.ntmps36
 go_wp2_with fail
 refine rg_start (S:=fun w'=>Box w' w.heap.size [.slice ao n c] 35/\True) (by kernel_rfl) (⟨PX.drew,trivial⟩) ?_
 replace h:=h.drew
 replace HB:=HB.drew
 replace PX:=PX.drew
 replace X4:=X4.drew
 have hS:=(show _/\_ from ⟨PX,trivial⟩)
 clear PX
 refine rg_n 0 3 (.pointer (some ⟨w.heap.size,0,none⟩)) (by kernel_rfl) (fun _ _=>by kernel_rfl) i3 hS ?_
 refine rg_load 1 (some 4) (.slice ao n c) 33 3 (w.heap.size) 0 (by kernel_rfl) (by kernel_rfl) (by kernel_rfl) (fun _ hs=>load_raw ⟨hs.1.blk⟩) i3 hS ?_
 refine rg_call 2 (some 5) 79 #[] (by kernel_rfl) (by kernel_rfl) (qUnit) ?_
 rintro e z1 ⟨A,K,DD,rfl,OU,hK,hB⟩
 refine ⟨_,rfl,⟨hS.1.keep hB,trivial⟩,?_⟩
 replace hS:=(show _/\_ from ⟨hS.1.keep hB,trivial⟩)
 replace h:=h.keep hB
 replace X4:=X4.keep hB
 replace HB:=joinB HB hB
 clear hB
 refine rg_call 3 (some 6) 78 #[.slice ao n c,.slice A K DD] (by kernel_rfl) (by kernel_rfl) (qReduced h OU.a (by omega) (by omega) (by decide)) ?_
 rintro e z2 ⟨Ar,Kr,Dr,As',Ks,Ds,rfl,Or1,Or2,hkr,hks,hB⟩
 refine ⟨_,rfl,⟨hS.1.keep hB,trivial⟩,?_⟩
 replace hS:=(show _/\_ from ⟨hS.1.keep hB,trivial⟩)
 replace h:=h.keep hB
 replace X4:=X4.keep hB
 replace OU:=OU.keep hB
 replace HB:=joinB HB hB
 clear hB
 refine rg_ready [4] (by kernel_rfl) (by simp) ?_
 refine ar_store 4 40 40 2 6 (w.heap.size + 1) [.slice none 0 0,.slice none 0 0] [.slice Ar Kr Dr,.slice As' Ks Ds] (by kernel_rfl) (by kernel_rfl) (by kernel_rfl) (by kernel_rfl) X4 (by kernel_rfl) rfl (by kernel_rfl) ?_ ar_nil
 intro z3 Y hw hB
 refine ⟨⟨hS.1.off (by omega) hw,trivial⟩,?_⟩
 replace hS:=(show _/\_ from ⟨hS.1.off (by omega) hw,trivial⟩)
 replace HB:=HB.trans (hB.mono (by omega))
 replace h:=h.blk X4 (no_ints2 _ _ _ _ _ _) hw
 skip
 replace OU:=OU.blk X4 (no_ints2 _ _ _ _ _ _) hw
 replace Or1:=Or1.blk X4 (no_ints2 _ _ _ _ _ _) hw
 replace Or2:=Or2.blk X4 (no_ints2 _ _ _ _ _ _) hw
 replace X4:=Y
 clear hB hw
 refine rg_done (by kernel_rfl) ?_
 try simp only [Act.put,List.setIfInBounds_toArray,List.set_cons_zero,List.set_cons_succ]
 go_wp2
 refine bodyPost_ret (ret_rat rfl rfl X4) rfl ?_
 exact ⟨_,_,_,_,_,_,rfl,Or1,Or2,by omega,by omega,HB⟩
end Go.Proofs.YtlbndpkdkdgggaaGreatDoor
namespace Go.Proofs.YtlbndpkdkdgggaaGreatDoor
open Go.RowKit Lim
end Go.Proofs.YtlbndpkdkdgggaaGreatDoor
namespace Go.Proofs.YtlbndpkdkdgggaaGreatDoor
open Go.RowKit Lim
def lenOf:Value->Nat | .slice _ n _=>n | _=>0
end Go.Proofs.YtlbndpkdkdgggaaGreatDoor
namespace Go.Proofs.YtlbndpkdkdgggaaGreatDoor
open Go.RowKit Lim
end Go.Proofs.YtlbndpkdkdgggaaGreatDoor
namespace Go.Proofs
open Go.Shelf
def Tryz.lays161_ren:Go.Shelf.Ren:=⟨fun | 161=>122 | 231=>140 | 227=>141 | 233=>142 | 235=>143 | 228=>159 | 197=>160 | 151=>161 | 260=>165 | 152=>166 | 137=>167 | 119=>168 | 224=>157 | 225=>156 | 217=>155 | 266=>163 | n=>n,fun | 9=>9 | 4=>4 | 3=>3 | 5=>5 | 117=>147 | 116=>146 | 0=>0 | 124=>150 | 105=>165 | 21=>21 | 119=>175 | 46=>116 | 139=>178 | 138=>177 | n=>n,fun | 3=>3 | 4=>4 | n=>n⟩
theorem Tryz.lays161:Go.Proofs.Lays.n161 Tryz.prog Tryz.lays161_ren:={
 mixed:=by kernel_rfl
 f119:=Tryz.func168.trans (congrArg some (by kernel_rfl))
 f137:=Tryz.func167.trans (congrArg some (by kernel_rfl))
 f151:=Tryz.func161.trans (congrArg some (by kernel_rfl))
 f152:=Tryz.func166.trans (congrArg some (by kernel_rfl))
 f161:=Tryz.func122.trans (congrArg some (by kernel_rfl))
 f197:=Tryz.func160.trans (congrArg some (by kernel_rfl))
 f217:=Tryz.func155.trans (congrArg some (by kernel_rfl))
 f224:=Tryz.func157.trans (congrArg some (by kernel_rfl))
 f225:=Tryz.func156.trans (congrArg some (by kernel_rfl))
 f227:=Tryz.func141.trans (congrArg some (by kernel_rfl))
 f228:=Tryz.func159.trans (congrArg some (by kernel_rfl))
 f231:=Tryz.func140.trans (congrArg some (by kernel_rfl))
 f233:=Tryz.func142.trans (congrArg some (by kernel_rfl))
 f235:=Tryz.func143.trans (congrArg some (by kernel_rfl))
 f260:=Tryz.func165.trans (congrArg some (by kernel_rfl))
 f266:=Tryz.func163.trans (congrArg some (by kernel_rfl))
 t0:=Tryz.underlying0
 a0:=Tryz.isAgg0
 z0:=Tryz.sizeOf0
 v0:=Tryz.zeroValue0
 t3:=Tryz.underlying3
 a3:=Tryz.isAgg3
 z3:=Tryz.sizeOf3
 v3:=Tryz.zeroValue3
 t4:=Tryz.underlying4
 a4:=Tryz.isAgg4
 z4:=Tryz.sizeOf4
 v4:=Tryz.zeroValue4
 t5:=Tryz.underlying5
 a5:=Tryz.isAgg5
 z5:=Tryz.sizeOf5
 v5:=Tryz.zeroValue5
 t9:=Tryz.underlying9
 a9:=Tryz.isAgg9
 z9:=Tryz.sizeOf9
 v9:=Tryz.zeroValue9
 t21:=Tryz.underlying21
 a21:=Tryz.isAgg21
 z21:=Tryz.sizeOf21
 v21:=Tryz.zeroValue21
 t46:=Tryz.underlying116
 a46:=Tryz.isAgg116
 z46:=Tryz.sizeOf116
 v46:=Tryz.zeroValue116
 t105:=Tryz.underlying165
 a105:=Tryz.isAgg165
 z105:=Tryz.sizeOf165
 v105:=Tryz.zeroValue165
 t116:=Tryz.underlying146
 a116:=Tryz.isAgg146
 z116:=Tryz.sizeOf146
 t117:=Tryz.underlying147
 a117:=Tryz.isAgg147
 z117:=Tryz.sizeOf147
 v117:=Tryz.zeroValue147
 t119:=Tryz.underlying175
 a119:=Tryz.isAgg175
 z119:=Tryz.sizeOf175
 t124:=Tryz.underlying150
 a124:=Tryz.isAgg150
 z124:=Tryz.sizeOf150
 v124:=Tryz.zeroValue150
 t138:=Tryz.underlying177
 a138:=Tryz.isAgg177
 z138:=Tryz.sizeOf177
 v138:=Tryz.zeroValue177
 t139:=Tryz.underlying178
 a139:=Tryz.isAgg178
 z139:=Tryz.sizeOf178
 v139:=Tryz.zeroValue178
 g3:=by kernel_rfl
 g4:=by kernel_rfl }
open Go.RowKit in
theorem Tryz.strings_TrimLeft_one (s:ByteArray) (c:UInt8) (hc:c.toNat < 128) (w:World) :
  Calls Tryz.prog 122 #[.string s,.string ⟨#[c]⟩] w fun e w'=>e=.returned (.string ⟨(Lib.trimLeftB s.data.toList c).toArray⟩)/\w'=w:=Any.strings_TrimLeft_one Tryz.lays161 s c hc w
def Tryz.lays219_ren:Go.Shelf.Ren:=⟨fun | 219=>138 | 217=>155 | 225=>156 | 224=>157 | 267=>158 | 266=>163 | 314=>164 | n=>n,fun | 9=>9 | 3=>3 | 4=>4 | 5=>5 | 46=>116 | 146=>172 | 51=>171 | n=>n,fun | 1=>0 | n=>n⟩
theorem Tryz.lays219:Go.Proofs.Lays.n219 Tryz.prog Tryz.lays219_ren:={
 mixed:=by kernel_rfl
 f217:=Tryz.func155.trans (congrArg some (by kernel_rfl))
 f219:=Tryz.func138.trans (congrArg some (by kernel_rfl))
 f224:=Tryz.func157.trans (congrArg some (by kernel_rfl))
 f225:=Tryz.func156.trans (congrArg some (by kernel_rfl))
 f266:=Tryz.func163.trans (congrArg some (by kernel_rfl))
 f267:=Tryz.func158.trans (congrArg some (by kernel_rfl))
 f314:=Tryz.func164.trans (congrArg some (by kernel_rfl))
 t3:=Tryz.underlying3
 a3:=Tryz.isAgg3
 z3:=Tryz.sizeOf3
 v3:=Tryz.zeroValue3
 t4:=Tryz.underlying4
 a4:=Tryz.isAgg4
 z4:=Tryz.sizeOf4
 v4:=Tryz.zeroValue4
 t5:=Tryz.underlying5
 a5:=Tryz.isAgg5
 z5:=Tryz.sizeOf5
 v5:=Tryz.zeroValue5
 t9:=Tryz.underlying9
 a9:=Tryz.isAgg9
 z9:=Tryz.sizeOf9
 v9:=Tryz.zeroValue9
 t46:=Tryz.underlying116
 a46:=Tryz.isAgg116
 z46:=Tryz.sizeOf116
 v46:=Tryz.zeroValue116
 t51:=Tryz.underlying171
 a51:=Tryz.isAgg171
 z51:=Tryz.sizeOf171
 v51:=Tryz.zeroValue171
 t146:=Tryz.underlying172
 a146:=Tryz.isAgg172
 z146:=Tryz.sizeOf172
 v146:=Tryz.zeroValue172
 g1:=by kernel_rfl }
open Go.RowKit Go.Lib in
theorem Tryz.stringslite_Index_one (s:ByteArray) (c:UInt8) (w:World) :
  Calls Tryz.prog 138 #[.string s,.string ⟨#[c]⟩] w fun e w'=>e=.returned (.int .i64 (Lib.indexByte s.data.toList c))/\w'=w:=Any.stringslite_Index_one Tryz.lays219 s c w
def Tryz.lays100_ren:Go.Shelf.Ren:=⟨fun | 100=>121 | 207=>139 | n=>n,fun | 9=>9 | 4=>4 | 3=>3 | n=>n,fun | n=>n⟩
theorem Tryz.lays100:Go.Proofs.Lays.n100 Tryz.prog Tryz.lays100_ren:={
 mixed:=by kernel_rfl
 f100:=Tryz.func121.trans (congrArg some (by kernel_rfl))
 f207:=Tryz.func139.trans (congrArg some (by kernel_rfl))
 t3:=Tryz.underlying3
 a3:=Tryz.isAgg3
 z3:=Tryz.sizeOf3
 v3:=Tryz.zeroValue3
 t4:=Tryz.underlying4
 a4:=Tryz.isAgg4
 z4:=Tryz.sizeOf4
 v4:=Tryz.zeroValue4
 t9:=Tryz.underlying9
 a9:=Tryz.isAgg9
 z9:=Tryz.sizeOf9
 v9:=Tryz.zeroValue9 }
open Go.RowKit Go.Lib in
theorem Tryz.strings_HasSuffix (s p:ByteArray) (w:World) (hs:s.size<=9223372036854775807) :
  Calls Tryz.prog 121 #[.string s,.string p] w fun e w'=>e=.returned (.bool (Lib.hasSuffix s.data.toList p.data.toList))/\w'=w:=Any.strings_HasSuffix Tryz.lays100 s p w hs
end Go.Proofs
namespace Go.Proofs.YtlbndpkdkdgggaaGreatDoor
open Go.RowKit Lim
end Go.Proofs.YtlbndpkdkdgggaaGreatDoor
namespace Go.Proofs.YtlbndpkdkdgggaaGreatDoor
open Go.RowKit Lim
end Go.Proofs.YtlbndpkdkdgggaaGreatDoor
namespace Go.Proofs.YtlbndpkdkdgggaaGreatDoor
open Go.RowKit Lim
end Go.Proofs.YtlbndpkdkdgggaaGreatDoor
namespace Go.Proofs.YtlbndpkdkdgggaaGreatDoor
open Go.RowKit Lim
end Go.Proofs.YtlbndpkdkdgggaaGreatDoor
namespace Go.Proofs.YtlbndpkdkdgggaaGreatDoor
open Go.RowKit Lim
end Go.Proofs.YtlbndpkdkdgggaaGreatDoor
namespace Go.Proofs.YtlbndpkdkdgggaaGreatDoor
open Go.RowKit Lim
end Go.Proofs.YtlbndpkdkdgggaaGreatDoor
namespace Go.Proofs.YtlbndpkdkdgggaaGreatDoor
open Go.RowKit Lim
end Go.Proofs.YtlbndpkdkdgggaaGreatDoor
namespace Go.Proofs.YtlbndpkdkdgggaaGreatDoor
open Go.RowKit Lim
end Go.Proofs.YtlbndpkdkdgggaaGreatDoor
namespace Go.Proofs.YtlbndpkdkdgggaaGreatDoor
open Go.RowKit Lim
theorem cut_yes (s:ByteArray) (i:Nat) (w:World) (hs:s.size<=1099511627776) (h:Lib.indexByte s.data.toList 46=(i:Int)) (hi:i < s.size) :
  Calls Tryz.prog 90 #[.string s,.string ⟨#[46]⟩] w fun e w'=>e=.returned (.tuple #[.string (s.extract 0 i),.string (s.extract (i + 1) s.size),.bool true])/\Below w.heap.size w w':=by
 have t:=Tryz.stringslite_Index_one s 46
 rw [h] at t
 clear h
 have hi0:(i:Int) < s.size:=by omega
 go_enter Tryz.func90,Tryz.ntmps90
 go_wp2_with (first
  | (go_at_call 138; refine (t _).mono ?_; rintro e w' ⟨rfl,rfl⟩)
  | go_in)
 go_quiet (fail)
 go_wp2
 go_ret3
 exact ⟨rfl,below_drewN (Below.refl _ _) _⟩
theorem places_ok (s:ByteArray) (w:World) (hs:s.size<=36) (h1:Lib.hasSuffix s.data.toList [48]=false) (h2:isT (Lib.trimLeftB s.data.toList 48)=true) :
  Calls Tryz.prog 92 #[.string s] w fun e w'=>∃ a k d,e=.returned (.tuple #[.agg #[.slice a k d],.int .i64 0])/\NatO w' a k d (dval (Lib.trimLeftB s.data.toList 48) * 10 ^ (36 - s.size))/\k<=80/\Below w.heap.size w w':=by
 have B0:=below_alloc w (.cells #[.slice none 0 0] 35)
 have S0:=slot_new w (.slice none 0 0) 35
 have tH:=Tryz.strings_HasSuffix s ⟨#[48]⟩
 rw [show (⟨#[48]⟩:ByteArray).data.toList=[48] from rfl,h1] at tH
 have tL:=Tryz.strings_TrimLeft_one s 48 (by decide)
 have hlen:(Lib.trimLeftB s.data.toList 48).length<=36:=by
  unfold Lib.trimLeftB
  have:=(List.dropWhile_sublist (fun x=>x == 48) (l:=s.data.toList)).length_le
  rw [len_data] at this
  omega
 have hsub:((36:Int) - (s.size:Int))=((36 - s.size:Nat):Int):=by omega
 clear h1
 generalize hR:(⟨(Lib.trimLeftB s.data.toList 48).toArray⟩:ByteArray)=R at tL
 have hRd:R.data.toList=Lib.trimLeftB s.data.toList 48:=by rw [<- hR]
 have hRs:R.size<=36:=by rw [<- len_data,hRd]; exact hlen
 have tP:=fun w=>parse_yes R w (by omega) (by rw [hRd]; exact h2)
 rw [hRd] at tP
 clear hR hRd h2 hlen
 generalize dval (Lib.trimLeftB s.data.toList 48)=V at *
 have HSUB:=(show Hid _ from hsub)
 clear hsub
 go_enter Tryz.func92,Tryz.ntmps92
 go_wp2_with (first
  | (go_at_call 121; refine (tH _ (by omega)).mono ?_; rintro e w' ⟨rfl,rfl⟩)
  | (go_at_call 122; refine (tL _).mono ?_; rintro e w' ⟨rfl,rfl⟩))
 refine (tP _).mono ?_
 rintro e w1 ⟨v,r,rfl,hnw,hI,hlr,hB⟩
 obtain ⟨a,d,rfl,hO⟩:=hnw.o hI
 have S0:=S0.keep hB
 have B0:=joinB B0 hB
 clear hB hnw hI tP tH tL
 have tT:=dTenTo (w:=w1) (36 - s.size) (by omega)
 rw [<- HSUB.out] at tT
 go_wp2_with fail
 refine tT.mono ?_
 rintro e w2 ⟨a2,k2,d2,rfl,hO2,hk2,hB⟩
 have S0:=S0.keep hB
 have B0:=joinB B0 hB
 have hO:=hO.keep hB
 clear hB tT
 go_wp2_with fail
 refine (nMul hO.a hO2.a (by omega) (by omega)).mono ?_
 rintro e w3 ⟨a',k',d',rfl,hO',hk',hB⟩
 have S1:=S0.keep hB
 have c1:=S1.cell
 have f1:=S1.free
 have S2:=S1.put (.slice a' k' d')
 have hOz:=hO'.put S1 not_int (.slice a' k' d')
 have HB:=belowPut B0 hB (g:=w.heap.size) (Nat.le_refl _) (.slice a' k' d')
 clear hO hO2 hO' hB S0 S1 B0
 go_wp2
 refine bodyPost_ret (ret_dec_tmp rfl rfl rfl S2) rfl ?_
 exact ⟨a',k',d',rfl,hOz,by omega,HB⟩
theorem dParse_ok (s : ByteArray) (i : Nat) (w : World) (hs : s.size ≤ 1000000) (h : Lib.indexByte s.data.toList 46 = (i : Int)) (hi : i < s.size) (ht : isT (s.extract 0 i).data.toList = true) (h36 : (s.extract (i + 1) s.size).size ≤ 36) (hf : Lib.hasSuffix (s.extract (i + 1) s.size).data.toList [48] = false) (hl : isT (Lib.trimLeftB (s.extract (i + 1) s.size).data.toList 48) = true) :
    Calls Tryz.prog 48 #[.string s] w fun e w' => ∃ a k d, e = .returned (.tuple #[.agg #[.slice a k d], .int .i64 0]) ∧ NatO w' a k d (dval (s.extract 0 i).data.toList * U36 + dval (Lib.trimLeftB (s.extract (i + 1) s.size).data.toList 48) * 10 ^ (36 - (s.extract (i + 1) s.size).size)) ∧ k ≤ s.size + 200 ∧ Below w.heap.size w w' := by
  have B0 := below_alloc w (.cells #[.slice none 0 0] 35)
  have S0 := slot_new w (.slice none 0 0) 35
  have tC := fun w => cut_yes s i w (by omega) h hi
  have hsz : (s.extract 0 i).size ≤ s.size := by rw [ByteArray.size_extract]; omega
  have tP := fun w => parse_yes (s.extract 0 i) w (by omega) ht
  have tQ := fun w => places_ok (s.extract (i + 1) s.size) w h36 hf hl
  clear h hi ht h36 hf hl
  generalize dval (s.extract 0 i).data.toList = X at *
  generalize dval (Lib.trimLeftB (s.extract (i + 1) s.size).data.toList 48) * 10 ^ (36 - (s.extract (i + 1) s.size).size) = Y at *
  generalize s.extract 0 i = D at *
  generalize s.extract (i + 1) s.size = E at *
  go_enter Tryz.func48, Tryz.ntmps48
  go_wp2_with fail
  refine (tC _).mono ?_
  rintro e w1 ⟨rfl, hB⟩
  have S0 := S0.keep hB
  have B0 := joinB B0 hB
  clear hB tC
  go_wp2_with fail
  refine (tP _).mono ?_
  rintro e w2 ⟨v, r, rfl, hnw, hI, hlr, hB⟩
  obtain ⟨a, d, rfl, hO⟩ := hnw.o hI
  have S0 := S0.keep hB
  have B0 := joinB B0 hB
  clear hB hnw hI tP
  go_wp2_with fail
  refine (tQ _).mono ?_
  rintro e w3 ⟨a3, k3, d3, rfl, hO3, hk3, hB⟩
  have S0 := S0.keep hB
  have B0 := joinB B0 hB
  have hO := hO.keep hB
  clear hB tQ
  have hgl := S0.lt
  have BA := below_alloc w3 (.cells #[.slice a3 k3 d3] 35)
  have SL := slot_new w3 (.slice a3 k3 d3) 35
  have S0 := S0.keep BA
  have hO := hO.keep BA
  have hO3 := hO3.keep BA
  have B0 := joinB B0 BA
  clear BA
  have cL := SL.cell
  go_wp2_with fail
  generalize w3.alloc (.cells #[.slice a3 k3 d3] 35) = w4 at *
  generalize w3.heap.size = gL at *
  go_region_held3 (fun w' => w'.cell? ⟨gL, 0, none⟩ = some (.slice a3 k3 d3)) (first | exact (by assumption) | exact (SL.other (by omega) _).cell | go_keep)
    (first
    | (go_at_call 88; refine (dOfNat hO.drew.a (by omega)).mono ?_; rintro e w5 ⟨a5, k5, d5, rfl, hO5, hk5, hB⟩; have S0 := S0.drew.keep hB; have SL := SL.drew.keep hB; have cL := SL.cell; have hO3 := hO3.drew.keep hB; have B0 := joinB B0.drew hB; clear hB hO)
    | (go_at_call 45; refine (dAdd hO5.a hO3.a (by omega) (by omega)).mono ?_; rintro e w6 ⟨a6, k6, d6, rfl, hO6, hk6, hB⟩; have S1 := S0.keep hB; have c1 := S1.cell; have f1 := S1.free; have SL := SL.keep hB; have cL := SL.cell; have S2 := S1.put (.slice a6 k6 d6); have hOz := hO6.put S1 not_int (.slice a6 k6 d6); have HB := (joinB B0 hB).setCell (p := ⟨w.heap.size, 0, none⟩) (Nat.le_refl _) (.slice a6 k6 d6); clear hB hO5 hO3 hO6 S0 B0))
  all_goals go_wp2
  all_goals refine bodyPost_ret (ret_dec_tmp rfl rfl rfl S2) rfl ?_
  all_goals exact ⟨a6, k6, d6, rfl, hOz, by omega, HB⟩
end Go.Proofs.YtlbndpkdkdgggaaGreatDoor
namespace Go.Proofs.YtlbndpkdkdgggaaGreatDoor
open Go.RowKit Lim
end Go.Proofs.YtlbndpkdkdgggaaGreatDoor
namespace Go.Proofs.YtlbndpkdkdgggaaGreatDoor
open Go.RowKit Lim
end Go.Proofs.YtlbndpkdkdgggaaGreatDoor
