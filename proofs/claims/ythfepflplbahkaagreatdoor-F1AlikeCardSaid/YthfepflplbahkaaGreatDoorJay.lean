import Derived.Test.YthfepflplbahkaaGreatDoorJab
import Derived.Test.YthfepflplbahkaaGreatDoorJam
import Derived.Lib.AppendStr
import Derived.Shelf.Strings.Trim
import Derived.Shelf.LaysM
import Derived.Shelf.Strings.Search1
import Derived.Shelf.Strconv.AppendUint10
import Derived.Test.YthfepflplbahkaaGreatDoorProg
set_option maxRecDepth 100000
set_option maxHeartbeats 8000000
namespace Go.Proofs.YthfepflplbahkaaGreatDoor
open Go.RowKit Lim
section
variable {w:World}{g i:Nat}{l:List Int}
structure dx(w:World)(g:Nat)(t:TypeId)(l:List Int):Prop where
 blk:w.heap[g]?=some (.cells (l.map (Value.int .u8)).toArray t (0,0))
theorem dx.lt{t:TypeId}(h:dx w g t l):g < w.heap.size:=lt_of_block h.blk
theorem dx.keep{w':World}{t:TypeId}(h:dx w g t l)(hb:Below w.heap.size w w'):dx w' g t l:=⟨by rw[hb.block g h.lt];exact h.blk⟩
theorem dx.cell{t:TypeId}(h:dx w g t l)(hi:i < l.length):w.cell? ⟨g,i,none⟩=some (.int .u8 (nth l i)):=by
 simp[World.cell?,h.blk,hi,bV hi]
theorem dx.free{t:TypeId}(h:dx w g t l)(i:Nat):w.frozen? ⟨g,i,none⟩=false:=by simp[World.frozen?,h.blk]
theorem dx.set{t:TypeId}(h:dx w g t l)(i:Nat)(x:Int):dx (w.setCell ⟨g,i,none⟩ (.int .u8 x)) g t (l.set i x):=⟨by
 have hb:=h.blk;simp only[World.setCell,Array.getElem?_modify,if_true,hb]
 simp⟩
theorem dx.other{g':Nat}{t:TypeId}(h:dx w g t l)(hne:g≠g')(u:Value):dx (w.setCell ⟨g',i,none⟩ u) g t l:=⟨by rw[Below.heap_setCell w _ u g hne];exact h.blk⟩
theorem dx.drew{t:TypeId}(h:dx w g t l):dx w.drew g t l:=⟨h.blk⟩
theorem lV(w:World)(t:TypeId)(l:List Int):dx (w.alloc (.cells (l.map (Value.int .u8)).toArray t)) w.heap.size t l:=⟨by
 show (w.heap.push _)[w.heap.size]?=_
 rw[Array.getElem?_push_size]⟩
def cN:Nat->List Int
 | 0=>[]
 | k+1=>cN k ++ [48+(k:Int) / 10,48+(k:Int) % 10]
theorem bZ(k:Nat):(cN k).length=2 * k:=by
 induction k with
 | zero=>rfl
 | succ k ih=>simp[cN,ih];omega
theorem wS{k:Nat}(h:i < k):nth (cN k) (2 * i)=48+(i:Int) / 10/\nth (cN k) (2 * i+1)=48+(i:Int) % 10:=by
 induction k with
 | zero=>omega
 | succ k ih =>
  have a:=bZ k;by_cases e:i=k
  ·subst e;rw[cN,bJ (by omega),bJ (by omega),a,Nat.sub_self,show 2 * i+1 - 2 * i=1 by omega];exact⟨rfl,rfl⟩
  ·rw[cN,cV (by omega),cV (by omega)];exact ih (by omega)
theorem dPairs:Calls Tryz.prog 108 #[] w fun e w'=>e=.returned (.agg ((cN 100).map (Value.int .u8)).toArray)/\Below w.heap.size w w':=by
 go_enter Tryz.func108,Tryz.ntmps108;go_wp2
 have n:Tryz.zeroCells183=((List.replicate 200 (0:Int)).map (Value.int .u8)).toArray:=by kernel_rfl
 rw[n];have b:=lV (w.alloc (.cells ((List.replicate 200 (0:Int)).map (Value.int .u8)).toArray 183)) 183 (List.replicate 200 0);rw[show (w.alloc (.cells ((List.replicate 200 (0:Int)).map (Value.int .u8)).toArray 183)).heap.size=w.heap.size+1 by simp] at b;have d:=(lV w 183 (List.replicate 200 0)).keep (ae _ (.cells ((List.replicate 200 (0:Int)).map (Value.int .u8)).toArray 183));have f:=lO w (.cells ((List.replicate 200 (0:Int)).map (Value.int .u8)).toArray 183) (.cells ((List.replicate 200 (0:Int)).map (Value.int .u8)).toArray 183);clear n;generalize (w.alloc (.cells ((List.replicate 200 (0:Int)).map (Value.int .u8)).toArray 183)).alloc (.cells ((List.replicate 200 (0:Int)).map (Value.int .u8)).toArray 183)=u at *;go_loopw [3] (fun m wr=>∃ k:Nat,k<=100/\m=.int .i64 k/\dx wr (w.heap.size+1) 183 (cN k ++ List.replicate (200 - 2 * k) 0)/\dx wr w.heap.size 183 (List.replicate 200 0)/\Below w.heap.size w wr) (fun m _=>100 - (intOf m).toNat)
 case atStart=>exact⟨0,by omega,rfl,b,d,f⟩
 case round =>
  clear b d f;obtain⟨k,v,rfl,b,d,f⟩:=hrel;by_cases t:k < 100
  ·have q:(k:Int) < 100:=by omega
   have hlen:(cN k ++ List.replicate (200 - 2 * k) (0:Int)).length=200:=by rw[List.length_append,bZ,List.length_replicate];omega
   have o:nth (cN k ++ List.replicate (200 - 2 * k) (0:Int)) (k * 2)=0:=by
    rw[bJ (by rw[bZ];omega),bV (by rw[bZ,List.length_replicate];omega)];simp
   have e1:nth (cN k ++ List.replicate (200 - 2 * k) (0:Int)) (k * 2+1)=0:=by
    rw[bJ (by rw[bZ];omega),bV (by rw[bZ,List.length_replicate];omega)];simp
   have c1:=b.cell (i:=k * 2) (by rw[hlen];omega);have c2:=b.cell (i:=k * 2+1) (by rw[hlen];omega);rw[o] at c1;rw[e1] at c2;have f1:=b.free (k * 2);have f2:=b.free (k * 2+1)
   have r:Hid (dx ((wr.setCell ⟨w.heap.size+1,k * 2,none⟩ (.int .u8 (48+(k:Int) / 10))).setCell ⟨w.heap.size+1,k * 2+1,none⟩ (.int .u8 (48+(k:Int) % 10))) (w.heap.size+1) 183 (cN (k+1) ++ List.replicate (200 - 2 * (k+1)) 0)):=by
    have:=(b.set (k * 2) (48+(k:Int) / 10)).set (k * 2+1) (48+(k:Int) % 10)
    have hs:((cN k ++ List.replicate (200 - 2 * k) (0:Int)).set (k * 2) (48+(k:Int) / 10)).set (k * 2+1) (48+(k:Int) % 10)=cN (k+1) ++ List.replicate (200 - 2 * (k+1)) 0:=by
     rw[show 200 - 2 * k=200 - 2 * (k+1)+1+1 by omega,List.replicate_succ,List.replicate_succ,cN];rw[show k * 2=(cN k).length by rw[bZ];omega];rw[List.set_append_right _ _ (Nat.le_refl _),Nat.sub_self,List.set_cons_zero,List.set_append_right _ _ (by omega),Nat.add_sub_cancel_left,List.set_cons_succ,List.set_cons_zero];simp
    rw[hs] at this;exact this
   have s:Hid (dx ((wr.setCell ⟨w.heap.size+1,k * 2,none⟩ (.int .u8 (48+(k:Int) / 10))).setCell ⟨w.heap.size+1,k * 2+1,none⟩ (.int .u8 (48+(k:Int) % 10))) w.heap.size 183 (List.replicate 200 0)):=(d.other (by omega) _).other (by omega) _
   have j:Hid (Below w.heap.size w ((wr.setCell ⟨w.heap.size+1,k * 2,none⟩ (.int .u8 (48+(k:Int) / 10))).setCell ⟨w.heap.size+1,k * 2+1,none⟩ (.int .u8 (48+(k:Int) % 10)))):=(f.setCell (p:=⟨w.heap.size+1,k * 2,none⟩) (by show w.heap.size<=w.heap.size+1;omega) _).setCell (p:=⟨w.heap.size+1,k * 2+1,none⟩) (by show w.heap.size<=w.heap.size+1;omega) _;clear b d f o e1 hlen;go_wp2;go_roundw
   case rel=>exact⟨k+1,by omega,by go_num,r.out,s.out,j.out⟩
   case measure=>simp[intOf];omega
  ·have l:k=100:=by omega
   subst l;rw[show cN 100 ++ List.replicate (200 - 2 * 100) (0:Int)=cN 100 by simp] at b
   have c:((cN 100).map (Value.int .u8)).toArray.size=200:=by simp[bZ]
   have j:=(show Hid _ from f)
   go_wp2_with (first
    | (refine wpList_load_row rfl 183 (.tmp 1) rfl (w.heap.size+1) rfl 183 _ (0,0) _ b.blk Tryz.underlying183 rfl (by rw[c];kernel_rfl) ?_)
    | (refine wpList_store_row rfl 183 (.tmp 0) (.tmp 18) rfl w.heap.size _ rfl rfl 183 _ d.blk (by rw[c];kernel_rfl) (by rw[c];simp) (by simp[Value.oneCell']) ?_))
   have g:=setRow_heap wr w.heap.size _ ((cN 100).map (Value.int .u8)).toArray _ _ d.blk;refine bodyPost_ret (results_cell_row rfl _ _ w.heap.size 183 _ (0,0) _ rfl g Tryz.underlying183 rfl (by rw[c];kernel_rfl)) rfl ?_
   exact⟨rfl,below_setRow j.out (Nat.le_refl _) _⟩
end
end Go.Proofs.YthfepflplbahkaaGreatDoor
namespace Go.Proofs.YthfepflplbahkaaGreatDoor
open Go.RowKit Lim
section
variable {l:List Int}{w:World}{B n:Nat}{v:Value}{xs:List Value}
def ed:List Int->Int
 | []=>0
 | x :: l=>x+10000000000000000000 * ed l
def fK(l:List Int):Prop:=∀ x∈l,0<=x/\x < 10000000000000000000
theorem kK(a b:List Int):ed (a ++ b)=ed a+10000000000000000000 ^ a.length * ed b:=by
 induction a with
 | nil=>simp[ed]
 | cons x a ih=>simp only[List.cons_append,ed,ih,List.length_cons,Int.pow_succ];grind
theorem gU(h:fK l):0<=ed l:=by
 induction l with
 | nil=>simp[ed]
 | cons x l ih=>have:=h x List.mem_cons_self;have:=ih fun y hy=>h y (List.mem_cons_of_mem _ hy);simp only[ed];omega
def lenOf:Value->Nat | .slice _ n _=>n | _=>0
theorem uw:Tryz.prog.underlying 29=some (.slice 22):=by kernel_rfl
theorem Cp{e:TypeId}(h:w.ownsRow B e 1 v n xs):lenOf v=n:=by
 rcases h.2 with⟨rfl,h0⟩ | ⟨g',cap,cur,rfl,_⟩
 ·simp[lenOf,h0]
 ·rfl
theorem eh.wr{b o:Nat}{w':World}(h:eh w B v l)(hw:Wr b o n w w')(hb:b < B):eh w' B v l:=by
 obtain⟨e,a⟩:=h;refine⟨e,?_⟩;rcases a with a | ⟨g,cap,cur,rfl,c,d,f⟩
 ·exact .inl a
 ·exact .inr ⟨g,cap,cur,rfl,c,by rw[hw.block g (by omega)];exact d,f⟩
theorem eh.mono{B':Nat}(h:eh w B v l)(hB:B'<=B):eh w B' v l:=by
 obtain⟨h1,h2⟩:=h;refine⟨h1,?_⟩;rcases h2 with h2 | ⟨g,cap,cur,rfl,hB1,hr⟩
 ·exact .inl h2
 ·exact .inr ⟨g,cap,cur,rfl,by omega,hr⟩
theorem me{k:Nat}{V R:Int}(e:10000000000000000000 ^ k * R<=V)(a:1<=R)(b:V < 18446744073709551616 ^ n):k<=2 * n:=by
 by_cases c:k<=2 * n
 ·exact c
 ·have e1:(18446744073709551616:Int) ^ n<=(4294967296 ^ 2) ^ n:=by rw[show (4294967296:Int) ^ 2=18446744073709551616 from rfl]; exact Int.le_refl _
  rw[<- Int.pow_mul] at e1
  have e2:(4294967296:Int) ^ (2 * n)<=4294967296 ^ k:=by
   have:(4294967296:Nat) ^ (2 * n)<=4294967296 ^ k:=Nat.pow_le_pow_right (by decide) (by omega)
   have a1:((4294967296 ^ (2 * n):Nat):Int)=(4294967296:Int) ^ (2 * n):=by rw[Int.natCast_pow];rfl
   have a2:((4294967296 ^ k:Nat):Int)=(4294967296:Int) ^ k:=by rw[Int.natCast_pow];rfl
   omega
  have e3:(4294967296:Int) ^ k<=10000000000000000000 ^ k:=by
   have:(4294967296:Nat) ^ k<=10000000000000000000 ^ k:=Nat.pow_le_pow_left (by omega) _
   have a1:((4294967296 ^ k:Nat):Int)=(4294967296:Int) ^ k:=by rw[Int.natCast_pow];rfl
   have a2:((10000000000000000000 ^ k:Nat):Int)=(10000000000000000000:Int) ^ k:=by rw[Int.natCast_pow];rfl
   omega
  have d:(10000000000000000000:Int) ^ k * 1<=10000000000000000000 ^ k * R:=Int.mul_le_mul_of_nonneg_left a (Int.le_of_lt (Int.pow_pos (by decide)));omega
theorem jW(ao:Option Addr)(n c b o:Nat)(l:List Int)(w:World)(hl:l.length=n)(hc:n<=c)(U:n<=1099511627776)(wl:Words l)(ha:At w ao b o l) :
  Calls Tryz.prog 101 #[.slice ao n c] w fun e w'=>∃ v g,e=.returned v/\eh w' w.heap.size v g/\fK g/\ed g=val l/\(g≠[]->0 < nth g (g.length - 1))/\g.length<=2 * n+1/\Below w.heap.size w w':=by
 obtain⟨i0,hi,hz0,hz1,P⟩:=info_parts gR;have hV:=dy wl;rw[hl] at hV;go_enter Tryz.func101,Tryz.ntmps101;go_wp2_with fail;refine(jr ao n c b o l w hl hc U ha).mono ?_
 rintro e w1 ⟨rfl,m,hb1⟩;have hn:=bC l;have hnl:=aJ l;have hI:=cA wl;have I:=m.lt;go_wp2_with fail;go_loopw [3,4] (fun tg tr wr=>∃ (g lr:List Int) (N C:Nat),tr=.slice (some ⟨w.heap.size,0,none⟩) N C/\Hid (N=lr.length)/\N<=C/\N<=n/\Hid (lenOf tg=g.length)/\eh wr (w.heap.size+1) tg g/\fK g/\Words lr/\Hid (aE lr=lr.length)/\Hid (ed g+10000000000000000000 ^ g.length * val lr=val l)/\Hid (g≠[]->val lr=0->0 < nth g (g.length - 1))/\At wr (some ⟨w.heap.size,0,none⟩) w.heap.size 0 lr/\dE wr w.heap.size 0 N/\w.heap.size < wr.heap.size/\Below w.heap.size w wr) (fun tg _ _=>2 * n+2 - lenOf tg)
 case atStart=>exact⟨[],norm l,aE l,aE l,rfl,hnl.symm,Nat.le_refl _,by omega,rfl,World.ownsRow_nil _ _ _ _,fun x hx=>by simp at hx,hI.1,hI.2.1,by show _=_;simp[ed,cZ],fun h=>absurd rfl h,m.at,m.free _ _,I,hb1⟩
 case round =>
  clear m hb1 hnl hI I hn;obtain⟨g,lr,N,C,rfl,hN,hNC,hNn,W,D,s,M,hnr,f,t,X,O,hsz,Q⟩:=hrel;by_cases hlt:0 < N
  ·go_wp2_with fail;refine(gJ (some ⟨w.heap.size,0,none⟩) w.heap.size 0 N C 10000000000000000000 lr wr hN.out.symm (by omega) hNC (by decide) (by decide) M X O).mono ?_
   rintro e w2 ⟨left,q,rfl,hf0,hf1,hlz,hwz,E,d,L⟩
   have Z:g.length<=2 * n:=by
    have hn0:=hN.out;have hp:=p9 M (by have:=hnr.out;omega);have hg0:=gU s;have hv:=f.out;exact me (V:=val l) (R:=val lr) (by omega) (by omega) hV
   have z:=D.wr d (by omega)
   have H:w2.ownsRow (w.heap.size+1) 22 1 _ g.length (g.map (Value.int .u64)):=z
   have hsz2:wr.heap.size<=w2.heap.size:=Nat.le_of_eq d.size.symm
   have hsz2':w2.heap.size<=wr.heap.size:=Nat.le_of_eq d.size;generalize hGL:g.length=G at *;have B:=(show Hid _ from hGL)
   clear hGL;go_wp2_with (at_builtin;refine wpList_append_own _ rfl _ _ 29 rfl (w.heap.size+1) 22 i0 (.int .u64 0) 1 8 uw hi hz0 hz1 P rfl (by decide) _ _ _ rfl (H.alloc _) ⟨w2.heap.size,0,none⟩ 1 1 [.int .u64 left] rfl rfl ?c1 ?c2 ?c3 ?c4 ?c5 ?_)
   case c1=>exact cell_one_new _ _ _
   case c2=>intro u hu;simp at hu;subst hu;rfl
   case c3=>unfold maxLen;omega
   case c4=>omega
   case c5=>simp;omega
   intro v' w3 j r _
   have A:Below (w.heap.size+1) w2 w3:=((Below.refl _ _).alloc (by omega) _).grown r (by simp;omega) (sL z);have y:=E.below A (.inr (by omega));have F:=d.free O
   have T:dE w3 w.heap.size 0 N:=fun i hi=>by rw[A.frozen (p:=⟨w.heap.size,0+i,none⟩) (by show w.heap.size < _;omega)];exact F i hi
   have hM:eh w3 (w.heap.size+1) v' (g ++ [left]):=by
    unfold eh;rw[List.length_append,B.out,List.map_append];exact j
   have hlv:=Cp j;have hsz3:=A.size
   have HB:Below w.heap.size w w3:=(Q.trans (d.below (Nat.le_refl _))).trans (A.mono (by omega));have t3:=bp (some ⟨w.heap.size,0,none⟩) N C q w3 hlz hNC (by omega) y.cells;have hz1:=bC q;have P:=aJ q;have Y:=y.sub (aE q);have hz4:=oC q;have J:=cZ q;have hz6:=hwz.norm;rw[show q.take (aE q)=norm q from rfl] at Y
   have hvl:0 < val lr:=p9 M (by have:=hnr.out;have:=hN.out;omega)
   have HV:Hid (ed (g ++ [left])+10000000000000000000 ^ (g ++ [left]).length * val (norm q)=val l):=by
    show _=_
    rw[kK,List.length_append,J,<- f.out,<- L,B.out,List.length_singleton,Int.pow_succ];simp only[ed];grind
   have HT:Hid ((g ++ [left])≠[]->val (norm q)=0->0 < nth (g ++ [left]) ((g ++ [left]).length - 1)):=by
    intro _ S;rw[List.length_append,List.length_singleton,Nat.add_sub_cancel,bJ (Nat.le_refl _),Nat.sub_self,cJ];rw[J] at S;rw[S] at L;omega
   have HL:Hid (lenOf v'=(g ++ [left]).length):=by show _=_;rw[hlv,List.length_append,B.out];rfl
   have HO:fK (g ++ [left]):=by
    intro x hx;rcases List.mem_append.1 hx with e | e
    ·exact s x e
    ·simp at e;subst e;exact⟨hf0,hf1⟩
   clear j r H z D y E d L X O F f t Q A J;generalize aE q=K at *;generalize norm q=R at *;go_wp2_with fail;refine t3.mono ?_
   rintro e w6 ⟨rfl,rfl⟩;go_wp2;go_roundw
   case rel=>exact⟨g ++ [left],R,K,K,rfl,P.symm,Nat.le_refl _,by omega,HL,hM,HO,hz6,hz4,HV,HT,Y,fun i hi=>T i (by omega),by omega,HB⟩
   case measure =>
    rw[HL.out,W.out,List.length_append,B.out,List.length_singleton];omega
  ·have hN0:lr=[]:=List.eq_nil_of_length_eq_zero (by have:=hN.out; omega);subst hN0;have hv:=f.out;rw[show val []=0 from rfl,Int.mul_zero,Int.add_zero] at hv;have ht:=fun h=>t.out h rfl
   have Z:g.length<=2 * n+1:=by
    have hg0:=gU s;by_cases S:g=[]
    ·subst S;simp
    ·have hne:g.length≠0:=fun e=>S (List.eq_nil_of_length_eq_zero e)
     have hlast:=ht S
     have hsp:g=g.take (g.length - 1) ++ [nth g (g.length - 1)]:=by
      rw[<- dV (by omega),show g.length - 1+1=g.length from by omega,List.take_of_length_le (Nat.le_refl _)]
     have hgv:ed g=ed (g.take (g.length - 1))+10000000000000000000 ^ (g.length - 1) * nth g (g.length - 1):=by
      conv=>lhs;rw[hsp]
      rw[kK,List.length_take,Nat.min_eq_left (by omega)];simp[ed]
     have h3:=gU (l:=g.take (g.length - 1)) (fun x hx=>s x (List.mem_of_mem_take hx));have:=me (V:=val l) (R:=nth g (g.length - 1)) (k:=g.length - 1) (by omega) (by omega) hV;omega
   have hmg':eh wr w.heap.size _ g:=D.mono (by omega);clear f t W D hN;have HV:=(show Hid _ from hv)
   clear hv;go_wp2;go_ret;exact⟨_,g,rfl,hmg',s,HV.out,ht,Z,Q⟩
end
end Go.Proofs.YthfepflplbahkaaGreatDoor
namespace Go.Proofs.YthfepflplbahkaaGreatDoor
open Go.RowKit Lim
section
variable {g l:List Int}{w:World}{v:Value}
def qS(u:Int)(wx:World):Prop:=Calls Tryz.prog 102 #[.slice none 0 0,.int .u64 u,.int .i64 10] wx fun e w'=>∃ v d,e=.returned v/\fB w' wx.heap.size v d/\fJ d/\dvI d=u/\0 < d.length/\d.length<=20/\nth d 0≠48/\Below wx.heap.size wx w'
theorem jk:Tryz.prog.underlying 9=some .string:=by kernel_rfl
theorem r6:Tryz.prog.underlying 5=some (.int .u8):=by kernel_rfl
theorem oy(d:List Int):∀ r:ByteArray,(d.foldl (fun r n=>r.push (UInt8.ofNat n.toNat)) r).data.toList=r.data.toList ++ d.map (fun n=>UInt8.ofNat n.toNat):=by
 induction d with
 | nil=>intro r;simp
 | cons c d ih=>intro r;rw[List.foldl_cons,ih];simp
theorem oI{i:Nat}(h:i < g.length):ed (g.drop i)=nth g i+10000000000000000000 * ed (g.drop (i+1)):=by
 rw[List.drop_eq_getElem_cons h,ed,bV h]
theorem fB.open{B:Nat}(h:fB w B v l)(d:0 < l.length):∃ g c,v=.slice (some ⟨g,0,none⟩) l.length c/\l.length<=c/\B<=g/\AtB w (some ⟨g,0,none⟩) g 0 l/\dE w g 0 l.length:=by
 obtain⟨_,b⟩:=h;rcases b with⟨rfl,h0⟩ | ⟨g,cap,cur,rfl,hB,hh,hle,hmx,hsz,htk⟩
 ·omega
 ·refine⟨g,cap,rfl,hle,hB,⟨.inr rfl,fun i hi=>?_⟩,fun i hi=>?_⟩
  ·have e:cur.toList[i]?=some (.int .u8 (nth l i)):=by
    have a:(cur.toList.take (l.length * 1))[i]?=some (.int .u8 (nth l i)):=by
     rw[htk,List.getElem?_map,List.getElem?_eq_getElem hi,bV hi];rfl
    rwa [Nat.mul_one,List.getElem?_take_of_lt hi] at a
   simp only[World.cell?,hh];simpa using e
  ·simp[World.frozen?,hh]
structure qx(s:ByteArray)(n:Int):Prop where
 bytes:∃ d:List Int,s.data.toList.map (fun c=>(c.toNat:Int))=d/\fJ d/\dvI d=n/\0 < d.length/\(d.length=1\/nth d 0≠48)
theorem xO(ao:Option Addr)(n c b o:Nat)(l:List Int)(w:World)(hl:l.length=n)(hc:n<=c)(hbig:n<=4294967296)(wl:Words l)(ha:At w ao b o l)(G:∀ g,fK g->ed g=val l->g≠[]->0 < nth g (g.length - 1)->∀ wx,Below w.heap.size w wx->qS (nth g (g.length - 1)) wx) :
  Calls Tryz.prog 67 #[.slice ao n c] w fun e w'=>∃ s,e=.returned (.string s)/\qx s (val l)/\s.size<=40 * n+40/\Below w.heap.size w w':=by
 go_enter Tryz.func67,Tryz.ntmps67;go_wp2_with fail;refine(jW ao n c b o l w hl hc (by omega) wl ha).mono ?_
 rintro e w1 ⟨v,g,rfl,hmg,T,z,I,hgl,C⟩;obtain⟨ag,cg,rfl,hgc,_,bg,Q,hBg,y,_⟩:=hmg.open;have hsz1:=C.size;by_cases p:g=[]
 ·subst p
  have hv0:val l=0:=by rw[<- z];rfl
  have HV0:=(show Hid _ from hv0)
  clear z hv0;go_wp2;go_ret;refine⟨_,rfl,⟨[48],rfl,fun c hc=>by rw[List.mem_singleton] at hc;subst hc;decide,by rw[HV0.out];rfl,by simp,.inl rfl⟩,?_,C⟩
  show 1<=_;omega
 ·have hgp:0 < g.length:=Nat.pos_of_ne_zero fun e=>p (List.eq_nil_of_length_eq_zero e)
  rcases Q with e | rfl
  ·exact absurd e p
  have tA:=G g T z p (I p);have HGV:=(show Hid _ from z)
  have i:=y.cell (g.length - 1) (by omega);rw[Nat.zero_add] at i;obtain⟨m,hm⟩:∃ m,g.length=m+1:=⟨g.length - 1,by omega⟩
  rw[hm,Nat.add_sub_cancel] at i tA;have O:=(show Hid _ from hm)
  rw[hm]
  have hu0:(m:Int) < (m:Int)+1:=by omega
  clear z I G hm hgc
  have hmg1:m+1<=2 * n+1:=by have:=O.out;omega
  generalize hU:nth g m=U at *;have HU:=(show Hid _ from hU)
  clear hU;go_wp2_with fail;have tB:=tA w1 C;unfold qS at tB;clear tA;refine tB.mono ?_
  rintro e w2 ⟨v2,d0,rfl,Z,hd2,H,F,X,K,A⟩;have hsz2:=A.size;have W:=y.keep A;go_wp2_with fail;go_loopw [5,21] (fun tt ti wr=>∃ (k:Nat) (d:List Int),k<=m/\ti=.int .i64 k/\fB wr w1.heap.size tt d/\fJ d/\Hid (dvI d=ed (g.drop (m - k)))/\0 < d.length/\d.length<=20+19 * k/\nth d 0≠48/\Below w1.heap.size w1 wr) (fun _ ti _=>m - (intOf ti).toNat)
  case atStart=>exact⟨0,d0,Nat.zero_le _,rfl,Z,hd2,by show _=_;rw[H,Nat.sub_zero,oI (by have:=O.out;omega),List.drop_of_length_le (by have:=O.out;omega),HU.out];simp[ed],F,by omega,K,A⟩
  case round =>
   clear Z hd2 H F X K A W;obtain⟨k,d,hk,rfl,hmd,M,B,t,hdl1,E,D⟩:=hrel;by_cases hlt:k < m
   ·obtain⟨h,hh⟩:∃ h:Nat,(m:Int) - 1 - k=h:=⟨m - 1 - k,by omega⟩
    have hh1:(h:Int) < (m:Int)+1:=by omega
    have hhm:m - k=h+1:=by omega
    have J:=y.below (D.mono (Nat.le_refl _)) (.inr (aI i));have hcw:=J.cell h (by have:=O.out;omega);rw[Nat.zero_add] at hcw;have Y:=T (nth g h) (lK (by have:=O.out;omega));have HD:=B.out;rw[hhm] at HD
    have HD:Hid (dvI d=ed (g.drop (h+1))):=HD
    have HG:Hid (ed (g.drop (m - (k+1)))=nth g h+10000000000000000000 * ed (g.drop (h+1))):=by
     show _=_
     rw[show m - (k+1)=h from by omega,oI (by have:=O.out;omega)]
    have HX:Hid (nth g h=nth g h):=rfl;generalize nth g h=x at *;clear J B;go_wp2_with (go_at_call 103;refine(lg w1.heap.size _ d x _ D.size hmd (by omega) Y.1 Y.2).mono ?_;rintro e w5 ⟨v5,q,rfl,hm5,hq5,hql,hqv,hb5⟩);go_roundw
    case rel =>
     refine⟨k+1,d ++ q,by omega,by go_num,hm5,?_,?_,by simp;omega,by simp;omega,?_,D.trans hb5⟩
     ·intro c hc;rcases List.mem_append.1 hc with e | e
      ·exact M c e
      ·exact hq5 c e
     ·show _=_
      rw[fw,hql,hqv,HD.out,HG.out,show (10:Int) ^ 19=10000000000000000000 from rfl];grind
     ·rw[cV t];exact E
    case measure=>simp[intOf];omega
   ·have hkm:k=m:=by omega
    subst hkm;rw[Nat.sub_self,List.drop_zero] at B;obtain⟨gb,cb,rfl,hdc,hgb,R,_⟩:=hmd.open t
    have f:=run_loadCells_list (P:=Tryz.prog) wr ⟨gb,0,none⟩ (d.map (Value.int .u8)) (fun j u hu=>by
     rw[List.getElem?_map] at hu
     have L:j < d.length:=by
      rcases Nat.lt_or_ge j d.length with L | L
      ·exact L
      ·rw[List.getElem?_eq_none L] at hu;simp at hu
     rw[List.getElem?_eq_getElem L] at hu;simp at hu;subst hu;have:=R.cell j L;rw[bV L] at this;rw[<- this];by_cases V:j=0
     ·subst V;exact congrArg wr.cell? (by simp[Addr.add])
     ·exact congrArg wr.cell? (by simp[Addr.add,V]))
    rw[List.length_map] at f;have N:=(run_convert_bytes_string (P:=Tryz.prog) wr 96 9 5 (some ⟨gb,0,none⟩) d.length cb cE r6 jk).trans (run_bytesToString wr ⟨gb,0,none⟩ d.length cb d f);obtain⟨S,hS⟩:∃ S,d.foldl (fun r n=>r.push (UInt8.ofNat n.toNat)) ByteArray.empty=S:=⟨_,rfl⟩
    rw[hS] at N;have HS:=(show Hid _ from hS)
    clear hS f
    have HB:Below w.heap.size w wr:=C.trans (D.mono hsz1);go_wp2;go_ret;have e1:=oy d ByteArray.empty;rw[HS.out] at e1
    have e2:S.data.toList.map (fun c=>(c.toNat:Int))=d:=by
     rw[e1];simp only[show ByteArray.empty.data.toList=[] from rfl,List.nil_append,List.map_map]
     conv=>rhs;rw[<- List.map_id d]
     apply List.map_congr_left;intro c hc;have:=M c hc;simp[Function.comp,UInt8.toNat_ofNat'];omega
    refine⟨S,rfl,⟨d,e2,M,by rw[B.out,HGV.out],t,.inr E⟩,?_,HB⟩;have:S.size=d.length:=by rw[<- e2];simp
    omega
end
end Go.Proofs.YthfepflplbahkaaGreatDoor
namespace Go.Proofs
open Go.Shelf
def Tryz.qQ:Go.Shelf.Ren:=⟨fun | 162=>68 | 232=>104 | 227=>105 | 234=>106 | 236=>107 | 228=>162 | 271=>163 | 151=>164 | 120=>203 | 197=>204 | 152=>205 | 260=>235 | 137=>236 | 119=>237 | 224=>238 | 225=>239 | 217=>253 | 266=>259 | n=>n,fun | 9=>9 | 4=>4 | 3=>3 | 5=>5 | 117=>177 | 116=>176 | 0=>0 | 124=>180 | 21=>21 | 105=>247 | 46=>217 | 119=>229 | 139=>334 | 138=>333 | n=>n,fun | 3=>3 | 4=>4 | n=>n⟩
theorem Tryz.BD:Go.Proofs.Lays.n162 Tryz.prog Tryz.qQ:={
 mixed:=by kernel_rfl
 f119:=Tryz.func237.trans (congrArg some (by kernel_rfl))
 f120:=Tryz.func203.trans (congrArg some (by kernel_rfl))
 f137:=Tryz.func236.trans (congrArg some (by kernel_rfl))
 f151:=Tryz.func164.trans (congrArg some (by kernel_rfl))
 f152:=Tryz.func205.trans (congrArg some (by kernel_rfl))
 f162:=Tryz.func68.trans (congrArg some (by kernel_rfl))
 f197:=Tryz.func204.trans (congrArg some (by kernel_rfl))
 f217:=Tryz.func253.trans (congrArg some (by kernel_rfl))
 f224:=Tryz.func238.trans (congrArg some (by kernel_rfl))
 f225:=Tryz.func239.trans (congrArg some (by kernel_rfl))
 f227:=Tryz.func105.trans (congrArg some (by kernel_rfl))
 f228:=Tryz.func162.trans (congrArg some (by kernel_rfl))
 f232:=Tryz.func104.trans (congrArg some (by kernel_rfl))
 f234:=Tryz.func106.trans (congrArg some (by kernel_rfl))
 f236:=Tryz.func107.trans (congrArg some (by kernel_rfl))
 f260:=Tryz.func235.trans (congrArg some (by kernel_rfl))
 f266:=Tryz.func259.trans (congrArg some (by kernel_rfl))
 f271:=Tryz.func163.trans (congrArg some (by kernel_rfl))
 t0:=Tryz.underlying0
 a0:=Tryz.isAgg0
 z0:=Tryz.sizeOf0
 v0:=Tryz.zeroValue0
 t3:=Tryz.underlying3
 a3:=Tryz.isAgg3
 z3:=Tryz.sizeOf3
 v3:=Tryz.zeroValue3
 t4:=Tryz.underlying4
 a4:=Tryz.isAgg4
 z4:=Tryz.sizeOf4
 v4:=Tryz.zeroValue4
 t5:=Tryz.underlying5
 a5:=Tryz.isAgg5
 z5:=Tryz.sizeOf5
 v5:=Tryz.zeroValue5
 t9:=Tryz.underlying9
 a9:=Tryz.isAgg9
 z9:=Tryz.sizeOf9
 v9:=Tryz.zeroValue9
 t21:=Tryz.underlying21
 a21:=Tryz.isAgg21
 z21:=Tryz.sizeOf21
 v21:=Tryz.zeroValue21
 t46:=Tryz.underlying217
 a46:=Tryz.isAgg217
 z46:=Tryz.sizeOf217
 v46:=Tryz.zeroValue217
 t105:=Tryz.underlying247
 a105:=Tryz.isAgg247
 z105:=Tryz.sizeOf247
 v105:=Tryz.zeroValue247
 t116:=Tryz.underlying176
 a116:=Tryz.isAgg176
 z116:=Tryz.sizeOf176
 t117:=Tryz.underlying177
 a117:=Tryz.isAgg177
 z117:=Tryz.sizeOf177
 v117:=Tryz.zeroValue177
 t119:=Tryz.underlying229
 a119:=Tryz.isAgg229
 z119:=Tryz.sizeOf229
 t124:=Tryz.underlying180
 a124:=Tryz.isAgg180
 z124:=Tryz.sizeOf180
 v124:=Tryz.zeroValue180
 t138:=Tryz.underlying333
 a138:=Tryz.isAgg333
 z138:=Tryz.sizeOf333
 v138:=Tryz.zeroValue333
 t139:=Tryz.underlying334
 a139:=Tryz.isAgg334
 z139:=Tryz.sizeOf334
 v139:=Tryz.zeroValue334
 g3:=by kernel_rfl
 g4:=by kernel_rfl }
open Go.RowKit in
theorem Tryz.strings_TrimRight_one (s:ByteArray) (c:UInt8) (hc:c.toNat < 128) (w:World) (hs:s.size<=9223372036854775807) :
  Calls Tryz.prog 68 #[.string s,.string ⟨#[c]⟩] w fun e w'=>e=.returned (.string ⟨(Lib.trimRightB s.data.toList c).toArray⟩)/\w'=w:=Any.strings_TrimRight_one Tryz.BD s c hc w hs
def Tryz.pH:Go.Shelf.Ren:=⟨fun | 288=>160 | 283=>199 | 284=>200 | 285=>201 | 286=>202 | 129=>139 | 317=>231 | 318=>232 | 319=>233 | 320=>234 | 337=>251 | 338=>252 | n=>n,fun | 37=>96 | 53=>22 | 3=>3 | 4=>4 | 9=>9 | 171=>284 | 0=>0 | 173=>286 | 212=>314 | 51=>315 | 5=>5 | 20=>20 | 213=>316 | 46=>217 | 232=>339 | 233=>340 | n=>n,fun | 17=>2 | 18=>6 | 19=>7 | n=>n⟩
theorem Tryz.xE:Go.Proofs.LaysM.n288 Tryz.prog Tryz.pH:={
 mixed:=by kernel_rfl
 f129:=Tryz.func139.trans (congrArg some (by kernel_rfl))
 f283:=Tryz.func199.trans (congrArg some (by kernel_rfl))
 f284:=Tryz.func200.trans (congrArg some (by kernel_rfl))
 f285:=Tryz.func201.trans (congrArg some (by kernel_rfl))
 f286:=Tryz.func202.trans (congrArg some (by kernel_rfl))
 f288:=Tryz.func160.trans (congrArg some (by kernel_rfl))
 f317:=Tryz.func231.trans (congrArg some (by kernel_rfl))
 f318:=Tryz.func232.trans (congrArg some (by kernel_rfl))
 f319:=Tryz.func233.trans (congrArg some (by kernel_rfl))
 f320:=Tryz.func234.trans (congrArg some (by kernel_rfl))
 f337:=Tryz.func251.trans (congrArg some (by kernel_rfl))
 f338:=Tryz.func252.trans (congrArg some (by kernel_rfl))
 t0:=Tryz.underlying0
 a0:=Tryz.isAgg0
 z0:=Tryz.sizeOf0
 v0:=Tryz.zeroValue0
 t3:=Tryz.underlying3
 a3:=Tryz.isAgg3
 z3:=Tryz.sizeOf3
 v3:=Tryz.zeroValue3
 t4:=Tryz.underlying4
 a4:=Tryz.isAgg4
 z4:=Tryz.sizeOf4
 v4:=Tryz.zeroValue4
 t5:=Tryz.underlying5
 a5:=Tryz.isAgg5
 z5:=Tryz.sizeOf5
 v5:=Tryz.zeroValue5
 t9:=Tryz.underlying9
 a9:=Tryz.isAgg9
 z9:=Tryz.sizeOf9
 v9:=Tryz.zeroValue9
 t20:=Tryz.underlying20
 a20:=Tryz.isAgg20
 z20:=Tryz.sizeOf20
 v20:=Tryz.zeroValue20
 t37:=Tryz.underlying96
 a37:=Tryz.isAgg96
 z37:=Tryz.sizeOf96
 v37:=Tryz.zeroValue96
 t46:=Tryz.underlying217
 a46:=Tryz.isAgg217
 z46:=Tryz.sizeOf217
 v46:=Tryz.zeroValue217
 t51:=Tryz.underlying315
 a51:=Tryz.isAgg315
 z51:=Tryz.sizeOf315
 v51:=Tryz.zeroValue315
 t53:=Tryz.underlying22
 a53:=Tryz.isAgg22
 z53:=Tryz.sizeOf22
 v53:=Tryz.zeroValue22
 t171:=Tryz.underlying284
 a171:=Tryz.isAgg284
 z171:=Tryz.sizeOf284
 v171:=Tryz.zeroValue284
 t173:=Tryz.underlying286
 a173:=Tryz.isAgg286
 z173:=Tryz.sizeOf286
 v173:=Tryz.zeroValue286
 t212:=Tryz.underlying314
 a212:=Tryz.isAgg314
 z212:=Tryz.sizeOf314
 v212:=Tryz.zeroValue314
 t213:=Tryz.underlying316
 a213:=Tryz.isAgg316
 z213:=Tryz.sizeOf316
 t232:=Tryz.underlying339
 a232:=Tryz.isAgg339
 z232:=Tryz.sizeOf339
 v232:=Tryz.zeroValue339
 t233:=Tryz.underlying340
 a233:=Tryz.isAgg340
 z233:=Tryz.sizeOf340
 v233:=Tryz.zeroValue340
 g17:=by kernel_rfl
 g18:=by kernel_rfl
 g19:=by kernel_rfl
 i0:=by kernel_rfl
 i3:=by kernel_rfl
 i4:=by kernel_rfl
 i5:=by kernel_rfl
 i9:=by kernel_rfl
 i20:=by kernel_rfl
 i37:=by kernel_rfl
 i46:=by kernel_rfl
 i51:=by kernel_rfl
 i53:=by kernel_rfl
 i171:=by kernel_rfl
 i173:=by kernel_rfl
 i212:=by kernel_rfl
 i232:=by kernel_rfl
 i233:=by kernel_rfl
 m17:=by kernel_rfl
 m18:=by kernel_rfl
 m19:=by kernel_rfl }
open Go.RowKit Go.Sort Go.Lib in
theorem Tryz.internal_strconv_AppendUint_10_small (B n u:Nat) (hu:u < 100) (d:Value) (xs:List Value) (w:World) (a:w.ownsRow B 5 1 d n xs) (c:B<=w.heap.size) (b:n+20<=140737488355328) :
  Calls Tryz.prog 160 #[d,.int .u64 u,.int .i64 10] w fun e w'=>∃ v',e=.returned v'/\w'.ownsRow B 5 1 v' (n+(Lib.decDigits u).length) (xs ++ Lib.byteCells (Lib.decDigits u))/\Below B w w'/\Lib.OthersKept 5 none w w':=Any.internal_strconv_AppendUint_10_small Tryz.xE B n u hu d xs w a c b
end Go.Proofs
namespace Go.Proofs.YthfepflplbahkaaGreatDoor
open Go.RowKit Lim
section
variable {u:Nat}{e:Ending}
theorem rh{n:Nat}(h:n < 256):(UInt8.ofNat n).toNat=n:=by simp[Nat.mod_eq_of_lt h]
theorem Bf(u:Nat):fJ ((Lib.decDigits u).map fun c=>(c.toNat:Int))/\dvI ((Lib.decDigits u).map fun c=>(c.toNat:Int))=u/\0 < (Lib.decDigits u).length/\(0 < u->nth ((Lib.decDigits u).map fun c=>(c.toNat:Int)) 0≠48):=by
 induction u using Nat.strongRecOn with
 | ind u ih =>
  by_cases h:u < 10
  ·rw[Lib.decDigits,dif_pos h]
   have e:(UInt8.ofNat (48+u)).toNat=48+u:=rh (by omega);simp only[List.map_cons,List.map_nil,e];refine⟨fun c hc=>?_,?_,by simp,fun a=>?_⟩
   ·rw[List.mem_singleton] at hc;omega
   ·simp[dvI];omega
   ·rw[cJ];omega
  ·rw[Lib.decDigits,dif_neg h];obtain⟨i1,i2,i3,i4⟩:=ih (u / 10) (by omega)
   have e:(UInt8.ofNat (48+u % 10)).toNat=48+u % 10:=rh (by omega);simp only[List.map_append,List.map_cons,List.map_nil,e];refine⟨i1.snoc (by omega) (by omega),?_,by simp,fun _=>?_⟩
   ·rw[mz,i2];omega
   ·rw[cV (by simpa using i3)];exact i4 (by omega)
theorem lY(l:List UInt8):Lib.byteCells l=(l.map fun c=>(c.toNat:Int)).map (Value.int .u8):=by
 simp[Lib.byteCells]
theorem xL{a w':World}(g:0 < u)(b:(Lib.decDigits u).length<=20)(h:∃ v',e=.returned v'/\w'.ownsRow a.heap.size 5 1 v' (0+(Lib.decDigits u).length) ([] ++ Lib.byteCells (Lib.decDigits u))/\Below a.heap.size a w'/\Lib.OthersKept 5 none a w') :
  ∃ v d,e=.returned v/\fB w' a.heap.size v d/\fJ d/\dvI d=(u:Int)/\0 < d.length/\d.length<=20/\nth d 0≠48/\Below a.heap.size a w':=by
 obtain⟨v,rfl,c,f,_⟩:=h;obtain⟨d1,d2,d3,d4⟩:=Bf u;refine⟨v,_,rfl,?_,d1,d2,by simpa using d3,by simpa using b,d4 g,f⟩;unfold fB;rw[<- lY,List.length_map];rw[Nat.zero_add,List.nil_append] at c;exact c
theorem dec20(h:u < 18446744073709551616):(Lib.decDigits u).length<=20:=by
 by_cases a:u=0
 ·subst a;rw[Lib.decDigits_one (by decide)];simp
 ·have:=Lib.numDigits_eq u (by omega) h;rw[Lib.decDigits_length];split at this<;>omega
theorem wQ(u:Nat)(i:0 < u)(f:u < 100)(c:World):qS (u:Int) c:=by
 unfold qS
 have b:c.ownsRow c.heap.size 5 1 (.slice none 0 0) 0 []:=World.ownsRow_nil _ _ _ _;have t:=Tryz.internal_strconv_AppendUint_10_small c.heap.size 0 u f (.slice none 0 0) [] c b (Nat.le_refl _) (by decide);go_enter Tryz.func102,Tryz.ntmps102;go_wp2_with fail;refine t.mono ?_
 intro e j h;have g:=xL i (dec20 (by omega)) h;obtain⟨v,d,rfl,r⟩:=g;go_wp2;go_ret;exact⟨v,d,rfl,r⟩
end
end Go.Proofs.YthfepflplbahkaaGreatDoor
namespace Go.Proofs.YthfepflplbahkaaGreatDoor
open Go.RowKit Lim
section
variable {k:Nat}{x:Int}
def dn:Nat->Int->List Int
 | 0,_=>[]
 | k+1,x=>dn k (x / 10) ++ [48+x % 10]
theorem dF(k:Nat)(x:Int):(dn k x).length=k:=by
 induction k generalizing x with
 | zero=>rfl
 | succ k ih=>simp[dn,ih]
theorem mE(h:0<=x):fJ (dn k x):=by
 induction k generalizing x with
 | zero=>intro c hc;simp[dn] at hc
 | succ k ih=>exact(ih (by omega)).snoc (by omega) (by omega)
theorem re(h:0<=x):dvI (dn k x)=x % 10 ^ k:=by
 induction k generalizing x with
 | zero=>simp[dn,dvI]
 | succ k ih =>
  rw[dn,mz,ih (by omega),Int.pow_succ]
  have d:(0:Int) < 10 ^ k:=Int.pow_pos (by decide);have e1:=Int.mul_ediv_add_emod (x / 10) (10 ^ k);have e2:=Int.mul_ediv_add_emod x 10;have e3:=Int.emod_nonneg (x / 10) (show (10:Int) ^ k≠0 by omega);have e:=Int.emod_lt_of_pos (x / 10) d;generalize x / 10 % 10 ^ k=r at *;generalize hq:x / 10 / 10 ^ k=q at *;generalize (10:Int) ^ k=P at *
  have c:x=(10 * r+x % 10)+(P * 10) * q:=by
   have:10 * (P * q+r)+x % 10=x:=by rw[e1];omega
   rw[<- this];rw[Int.mul_add];have:10 * (P * q)=P * 10 * q:=by rw[<- Int.mul_assoc,Int.mul_comm 10 P]
   omega
  conv=>rhs;rw[c]
  rw[Int.add_mul_emod_self_left,Int.emod_eq_of_lt (a:=10 * r+x % 10) (b:=P * 10) (by omega) (by omega)];omega
theorem mY(k m:Nat)(x:Int)(h:0<=x):dn (k+m) x=dn k (x / 10 ^ m) ++ dn m x:=by
 induction m generalizing x with
 | zero=>simp[dn]
 | succ m ih =>
  rw[Nat.add_succ,dn,ih _ (by omega),dn,List.append_assoc];congr 2
  rw[Int.pow_succ,Int.mul_comm,<- Int.ediv_ediv_of_nonneg (by decide)]
theorem yE(k:Nat)(x:Int):dn (k+2) x=dn k (x / 100) ++ [48+x % 100 / 10,48+x % 100 % 10]:=by
 rw[dn,dn,List.append_assoc]
 have e1:x / 10 / 10=x / 100:=by omega
 have e2:x / 10 % 10=x % 100 / 10:=by omega
 have e3:x % 10=x % 100 % 10:=by omega
 rw[e1,e2,e3];rfl
end
end Go.Proofs.YthfepflplbahkaaGreatDoor
namespace Go.Proofs.YthfepflplbahkaaGreatDoor
open Go.RowKit Lim
section
variable {l:List Int}
theorem ir(h:fJ l):0<=dvI l/\dvI l < 10 ^ l.length:=by
 induction l with
 | nil=>simp[dvI]
 | cons c l ih =>
  have hc:=h c (by simp);have:=ih fun x hx=>h x (by simp[hx])
  have e:dvI (c :: l)=(c - 48) * 10 ^ l.length+dvI l:=by rw[show c :: l=[c] ++ l from rfl,fw];simp[dvI]
  have a:(0:Int) < 10 ^ l.length:=Int.pow_pos (by decide)
  have d:0<=(c - 48) * 10 ^ l.length:=Int.mul_nonneg (by omega) (Int.le_of_lt a)
  have b:(c - 48) * 10 ^ l.length<=9 * 10 ^ l.length:=Int.mul_le_mul_of_nonneg_right (by omega) (Int.le_of_lt a);rw[e,List.length_cons,Int.pow_succ];omega
theorem dvI_ge(h:fJ l)(d:0 < l.length)(a:nth l 0≠48):10 ^ (l.length - 1)<=dvI l:=by
 cases l with
 | nil=>simp at d
 | cons c l =>
  rw[cJ] at a;have hc:=h c (by simp);have hb:=ir (l:=l) fun x hx=>h x (by simp[hx])
  have e:dvI (c :: l)=(c - 48) * 10 ^ l.length+dvI l:=by rw[show c :: l=[c] ++ l from rfl,fw];simp[dvI]
  have b:(0:Int) < 10 ^ l.length:=Int.pow_pos (by decide);have:1 * 10 ^ l.length<=(c - 48) * 10 ^ l.length:=Int.mul_le_mul_of_nonneg_right (by omega) (Int.le_of_lt b);rw[e,List.length_cons,Nat.add_sub_cancel];omega
theorem ph:∀ {a b:List Int},fJ a->fJ b->a.length=b.length->dvI a=dvI b->a=b
 | [],[],_,_,_,_=>rfl
 | x :: a,y :: b,ha,hb,hl,hv=>by
  have ha':fJ a:=fun z g=>ha z (by simp[g])
  have f:fJ b:=fun z g=>hb z (by simp[g])
  have d:a.length=b.length:=by simpa using hl
  have i:=ir ha';have j:=ir f
  have e1:dvI (x :: a)=(x - 48) * 10 ^ b.length+dvI a:=by rw[show x :: a=[x] ++ a from rfl,fw,d];simp[dvI]
  have e2:dvI (y :: b)=(y - 48) * 10 ^ b.length+dvI b:=by rw[show y :: b=[y] ++ b from rfl,fw];simp[dvI]
  rw[e1,e2] at hv;rw[d] at i
  have h:(0:Int) < 10 ^ b.length:=Int.pow_pos (by decide)
  have e:x=y:=by
   rcases Int.lt_trichotomy x y with c | c | c
   ·have:(x - 48+1) * 10 ^ b.length<=(y - 48) * 10 ^ b.length:=Int.mul_le_mul_of_nonneg_right (by omega) (Int.le_of_lt h);rw[Int.add_mul] at this;omega
   ·exact c
   ·have:(y - 48+1) * 10 ^ b.length<=(x - 48) * 10 ^ b.length:=Int.mul_le_mul_of_nonneg_right (by omega) (Int.le_of_lt h);rw[Int.add_mul] at this;omega
  subst e;rw[ph ha' f d (by omega)]
theorem so{a b:List Int}(c:fJ a)(hb:fJ b)(f:0 < a.length)(d:0 < b.length)(ka:a.length=1\/nth a 0≠48)(kb:b.length=1\/nth b 0≠48)(hv:dvI a=dvI b):a=b:=by
 apply ph c hb _ hv
 have key:∀ {a b:List Int},fJ a->fJ b->0 < a.length->0 < b.length->(b.length=1\/nth b 0≠48)->dvI a=dvI b->¬ a.length < b.length:=by
  intro a b c hb f d kb hv g;have h:=(ir c).2;rcases kb with e | e
  ·omega
  ·have i:=dvI_ge hb d e;have:=xP (show a.length<=b.length - 1 by omega);omega
 have k1:=key c hb f d kb hv;have k2:=key hb c d f ka hv.symm;omega
theorem Cq{S:ByteArray}{n:Int}(h:qx S n)(l:List UInt8)(k:(l.map (fun c=>(c.toNat:Int))).all (fun c=>decide (48<=c/\c<=57))=true)(hv:dvI (l.map (fun c=>(c.toNat:Int)))=n)(r:0 < l.length)(p:l.length=1\/nth (l.map (fun c=>(c.toNat:Int))) 0≠48):S=⟨l.toArray⟩:=by
 obtain⟨d,e,j,f,g,i⟩:=h.bytes
 have o:fJ (l.map (fun c=>(c.toNat:Int))):=fun c hc=>by
  rw[List.all_eq_true] at k;simpa using k c hc
 have:=so j o g (by simpa using r) i (by simpa using p) (f.trans hv.symm);rw[<- e] at this
 have m:S.data.toList=l:=List.map_inj_right (fun a b q=>UInt8.toNat_inj.1 (by omega)) |>.1 this
 cases S with
 | mk arr=>simp at m;simp[<- m]
end
end Go.Proofs.YthfepflplbahkaaGreatDoor
namespace Go.Proofs.YthfepflplbahkaaGreatDoor
open Go.RowKit Lim
section
variable {w w':World}{ao:Option Addr}{n c X g:Nat}{x:Int}{l d:List Int}{ops:Array Oper}{K:Act->World->Prop}
theorem nSmall(h:dY w ao n c x)(hn:n<=1099511627776)(hx:x < 18446744073709551616) :
  Calls Tryz.prog 110 #[.slice ao n c] w fun e w'=>e=.returned (.tuple #[.int .u64 x,.bool true])/\Below w.heap.size w w':=by
 obtain⟨b,o,l,g,p,f,i⟩:=h.ex
 have d:aE l=n:=f.2.1.trans g
 have m:n<=1:=by
  rcases Nat.lt_or_ge 1 n with e | e
  ·have q:=fC f.1 (by omega);have r:=gT (show 1<=aE l - 1 by omega);rw[f.2.2] at q
   have h7:(18446744073709551616:Int) ^ 1=18446744073709551616:=by decide
   omega
  ·exact e
 have t:=bp ao n c l w g p (by omega) i.cells;rw[d] at t;have hv:=f.2.2;rcases(show n=0\/n=1 by omega) with e | e
 ·subst e;obtain rfl:l=[]:=List.eq_nil_of_length_eq_zero g
  have j:x=0:=by rw[<- hv];rfl
  subst j;clear hv d;go_enter Tryz.func110,Tryz.ntmps110;go_wp2_with fail;refine t.mono ?_
  rintro e w' ⟨rfl,rfl⟩;go_wp2;go_ret2;exact⟨rfl,Below.refl _ _⟩
 ·subst e;obtain⟨y,rfl⟩:∃ y,l=[y]:=by
   match l,g with
   | [y],_=>exact⟨y,rfl⟩
  have hy:y=x:=by rw[<- hv];simp[val]
  subst hy;have hc:=i.cell 0 (by simp);obtain rfl:ao=some ⟨b,o,none⟩:=by
   rcases i.loc with e | e
   ·simp at e
   ·exact e
  rw[cJ,Nat.add_zero] at hc;clear hv d i f;go_enter Tryz.func110,Tryz.ntmps110;go_wp2_with fail;refine t.mono ?_
  rintro e w' ⟨rfl,rfl⟩;go_wp2;go_ret2;exact⟨rfl,Below.refl _ _⟩
theorem CF(i:Nat)(h:i < 100):∀ j v,[Value.int .u8 (48+(i:Int) / 10),Value.int .u8 (48+(i:Int) % 10)][j]?=some v->∀ (w:World) (gp:Nat),dx w gp 183 (cN 100)->w.cell? ((⟨gp,i * 2,none⟩:Addr).add j)=some v:=by
 intro j v a w gp R;have c:=bZ 100;obtain⟨b,p1⟩:=wS h
 match j,a with
 | 0,a =>
  simp at a;subst a;have:=R.cell (i:=2 * i) (by omega);rw[b] at this;rw[<- this];exact congrArg w.cell? (by simp[Addr.add,Nat.mul_comm])
 | 1,a =>
  simp at a;subst a;have:=R.cell (i:=2 * i+1) (by omega);rw[p1] at this;rw[<- this];exact congrArg w.cell? (by simp[Addr.add,Nat.mul_comm])
 | j+2,a=>simp at a
theorem Dg(g E:Nat)(h:E<=34)(W:World):(Instr.sliceAt 181 (.pointer (some ⟨g,0,none⟩)) (some (.int .i64 (E:Int))) none none).run Tryz.prog W=.ok (.slice (some ⟨g,E,none⟩) (36 - E) (36 - E)) W:=by
 have a:Tryz.prog.arrayLen 181=36:=by kernel_rfl
 have b:Tryz.prog.elem 181=5:=by kernel_rfl
 have hu:Tryz.prog.underlying 181=some (.array (Tryz.prog.arrayLen 181) (Tryz.prog.elem 181)):=by kernel_rfl
 have hs:(sizeOf 5).run Tryz.prog W=.ok 1 W:=by kernel_rfl
 rw[run_sliceAt_array_l W 181 ⟨g,0,none⟩ hu .i64 (E:Int) (by omega) (by rw[a];omega),b,hs,a];simp only[Result.andThen,slicedAt,Int.toNat_natCast,Nat.mul_one];rw[if_neg (by omega)];congr 3
 unfold Addr.add;split<;>simp_all
theorem slice2(g o:Nat)(W:World):(Instr.sliceAt 182 (.pointer (some ⟨g,o,none⟩)) none none none).run Tryz.prog W=.ok (.slice (some ⟨g,o,none⟩) 2 2) W:=by
 have a:Tryz.prog.arrayLen 182=2:=by kernel_rfl
 have b:Tryz.prog.elem 182=5:=by kernel_rfl
 have hu:Tryz.prog.underlying 182=some (.array (Tryz.prog.arrayLen 182) (Tryz.prog.elem 182)):=by kernel_rfl
 have hs:(sizeOf 5).run Tryz.prog W=.ok 1 W:=by kernel_rfl
 rw[run_sliceAt_array_all W 182 ⟨g,o,none⟩ hu,b,hs,a];simp[Result.andThen,slicedAt,Addr.add]
theorem Ca:(Tryz.prog.info? 5).map (·.size)=some 1:=by kernel_rfl
theorem sW{en k:Nat}(b:l.length=36)(he:en<=36)(a:2 * k+2<=en) :
  splice ((l.take (en - 2 * k) ++ dn (2 * k) X ++ l.drop en).map (Value.int .u8)) (en - 2 * k - 2) [Value.int .u8 (48+(((X / 100 ^ k % 100:Nat):Nat):Int) / 10),Value.int .u8 (48+(((X / 100 ^ k % 100:Nat):Nat):Int) % 10)]
   = (l.take (en - 2 * (k+1)) ++ dn (2 * (k+1)) X ++ l.drop en).map (Value.int .u8):=by
 have hX:(0:Int)<=(X:Int):=by omega
 have e1:dn (2 * (k+1)) (X:Int)=[48+(((X / 100 ^ k % 100:Nat):Nat):Int) / 10,48+(((X / 100 ^ k % 100:Nat):Nat):Int) % 10] ++ dn (2 * k) X:=by
  rw[show 2 * (k+1)=2+2 * k by omega,mY 2 (2 * k) _ hX];congr 1
  rw[show (2:Nat)=0+2 from rfl,yE]
  have e2:(X:Int) / 10 ^ (2 * k)=((X / 100 ^ k:Nat):Int):=by
   rw[Int.natCast_ediv];congr 1
   rw[Int.pow_mul];simp
  rw[e2];simp[dn]
 rw[e1]
 have hA:(l.take (en - 2 * k)).length=en - 2 * k:=by simp;omega
 unfold splice;simp only[List.map_append,List.append_assoc,List.map_cons,List.length_cons,List.length_nil,List.cons_append,List.nil_append];rw[List.take_append_of_le_length (by simp;omega),List.drop_append,List.drop_of_length_le (by simp;omega)];rw[<- List.map_take,List.take_take,Nat.min_eq_left (by omega),show en - 2 * k - 2=en - 2 * (k+1) by omega];rw[List.length_map,hA,show en - 2 * (k+1)+(0+1+1) - (en - 2 * k)=0 by omega];simp
theorem nK{P:Program}{o:Oper}{a:Act}{Q:Exit->Act->World->Prop}{E:Prop}(k:o.guard=none)(d s:Operand)(l sT:TypeId)(p:o.op=.call { callee:=.builtin .copy,args:=#[d,s],argTypes:=#[l,sT] })(elem:TypeId)(hu:P.underlying l=some (.slice elem))(m:(P.info? elem).map (·.size)=some 1)(g off dLen dCap:Nat)(ad:Addr)(sLen sCap:Nat)(r:a.eval d=.slice (some ⟨g,off,none⟩) dLen dCap)(hs:a.eval s=.slice (some ad) sLen sCap)(cur:List Value)(t:TypeId)(n:w.heap[g]?=some (.cells cur.toArray t (0,0)))(cs:List Value)(hn:cs.length=Nat.min sLen dLen)(f:∀ j v,cs[j]?=some v->w.cell? (ad.add j)=some v)(c:off+cs.length<=cur.length)(i:∀ v∈cs,v.oneCell'=true)(h:∀ w',Hid (w'.heap[g]?=some (.cells (splice cur off cs).toArray t (0,0)))->Hid (∀ b,b≠g->w'.heap[b]?=w.heap[b]?)->Hid (∀ B w0,B<=g->Below B w0 w->Below B w0 w')->K (a.put o.dst (goInt cs.length)) w') :
  if Region.wanted o (yielded ops a.tmps)=true then Oper.wp P o a w K Q else E:=by
 have hw:Region.wanted o (yielded ops a.tmps)=true:=by simp[Region.wanted,k]
 rw[if_pos hw];have e:=run_copy_row (P:=P) w l sT o.type elem g off dLen dCap ad sLen sCap cur.toArray t cs hu m n hn f (by simpa using c) i;unfold Oper.wp;simp[execOp,p,resolve,invoke,builtin,r,hs,e,Result.andThen];exact h _ (show _=_ by simpa[splice] using setRow_heap w g _ _ t _ n) (fun b hb=>setRow_other w g b _ hb) (fun B w0 i q=>below_setRow q i _)
theorem zN{gt g:Nat}(en:Nat)(h:dY w ao n c (X:Int))(hn:n<=1099511627776)(hx:X < 1000000000000000000)(T:dx w gt 181 l)(hl:l.length=36)(hen:18<=en)(p:en<=36)(m:dx w g 183 (cN 100))(I:gt≠g) :
  Calls Tryz.prog 109 #[.int .i64 en,.slice ao n c,.pointer (some ⟨gt,0,none⟩),.pointer (some ⟨g,0,none⟩)] w fun e w'=>e=.returned (.tuple #[])/\dx w' gt 181 (l.take (en - 18) ++ dn 18 X ++ l.drop en)/\(∀ B w0,B<=gt->Below B w0 w->Below B w0 w')/\(∀ b,b < w.heap.size->b≠gt->w'.heap[b]?=w.heap[b]?):=by
 go_enter Tryz.func109,Tryz.ntmps109;go_wp2_with fail;refine(nSmall h hn (by omega)).mono ?_
 rintro e O ⟨rfl,s⟩;have hlt:=T.lt;have T:=T.keep s;have m:=m.keep s
 have f:Hid (∀ b,b < w.heap.size->b≠gt->O.heap[b]?=w.heap[b]?):=fun b hb _=>s.block b hb
 have d:Hid (∀ B w0,B<=gt->Below B w0 w->Below B w0 O):=fun B w0 x o=>o.trans (s.mono (by omega))
 clear h s;go_wp2;go_loopw [0,6,13] (fun te W G wr=>∃ k:Nat,k<=9/\G=.int .i64 k/\te=.int .i64 ((en - 2 * k:Nat):Int)/\W=.int .u64 ((X / 100 ^ k:Nat):Int)/\dx wr gt 181 (l.take (en - 2 * k) ++ dn (2 * k) X ++ l.drop en)/\dx wr g 183 (cN 100)/\(∀ B w0,B<=gt->Below B w0 w->Below B w0 wr)/\(∀ b,b < w.heap.size->b≠gt->wr.heap[b]?=w.heap[b]?)) (fun _ _ G _=>9 - (intOf G).toNat)
 case atStart=>exact⟨0,by omega,rfl,rfl,by simp,by simpa[dn] using T,m,d.out,f.out⟩
 case round =>
  clear T m f d;obtain⟨k,hk,rfl,rfl,rfl,T,m,d,f⟩:=hrel;by_cases K:k < 9
  ·have hs:=sW (X:=X) hl p (show 2 * k+2<=en by omega);have U:=(show Hid _ from hs)
   have hlen:(l.take (en - 2 * k) ++ dn (2 * k) X ++ l.drop en).length=36:=by simp[dF];omega
   have d:=(show Hid _ from d)
   have f:=(show Hid _ from f)
   have hdiv:X / 100 ^ k / 100=X / 100 ^ (k+1):=by rw[Nat.div_div_eq_div_mul,Nat.pow_succ]
   have Z:=(show Hid _ from hdiv)
   have C:X / 100 ^ k < 1000000000000000000:=Nat.lt_of_le_of_lt (Nat.div_le_self _ _) hx;clear hs hdiv;generalize X / 100 ^ k=Y at *
   have hi:Y % 100 < 100:=Nat.mod_lt _ (by decide)
   have V:(Y:Int).tmod 100=((Y % 100:Nat):Int):=by rw[Int.tmod_eq_emod_of_nonneg (by omega)];omega
   generalize Y % 100=i at *
   have hi0:(i:Int) < 100:=by omega
   have q:=fun j v (z:[Value.int .u8 (48+(i:Int) / 10),Value.int .u8 (48+(i:Int) % 10)][j]?=some v)=>CF i hi j v z
   have D:=(show Hid _ from q)
   clear q;obtain⟨E,J⟩:∃ E,en - 2 * k=E+2:=⟨en - 2 * k - 2,by omega⟩
   have L:E+2<=36:=by omega
   have P:=(show Hid _ from J)
   rw[J];clear J;have N:=Dg gt E (by omega);have S:=slice2 g (i * 2);go_wp2_with fail;go_region_law (refine nK rfl (.tmp 18) (.tmp 22) 96 96 rfl 5 cE Ca gt E (36 - E) (36 - E) ⟨g,i * 2,none⟩ 2 2 (by rfl) (by rfl) _ 181 T.drew.blk [Value.int .u8 (48+(i:Int) / 10),Value.int .u8 (48+(i:Int) % 10)] (by show 2=Nat.min 2 (36 - E);exact(Nat.min_eq_left (by omega)).symm) (fun j v z=>D.out j v z _ g m.drew) (by rw[List.length_map,hlen];show E+2<=36;omega) (by simp[Value.oneCell']) ?_;intro R u r F)
   have Q:dx R gt 181 (l.take (en - 2 * (k + 1)) ++ dn (2 * (k + 1)) X ++ l.drop en):=⟨by
    rw[<- U.out,show en - 2 * k - 2=E by have:=P.out;omega];exact u.out⟩
   have y:dx R g 183 (cN 100):=⟨by rw[r.out g (fun e=>I e.symm)];exact m.blk⟩
   have H:=(show Hid _ from Q)
   have t:=(show Hid _ from y)
   have htd:(Y:Int).tdiv 100=((Y / 100:Nat):Int):=by rw[Int.tdiv_eq_ediv_of_nonneg (by omega)];omega
   have M:Y / 100 < 1000000000000000000:=Nat.lt_of_le_of_lt (Nat.div_le_self _ _) C;generalize hY2:Y / 100=Y2 at *;have HY2:=(show Hid _ from hY2)
   clear hY2 Q y T m u;go_wp2;go_roundw
   case rel=>exact⟨k+1,by omega,by go_num,by rw[show en - 2 * (k+1)=E by have:=P.out;omega],by rw[<- Z.out],H.out,t.out,fun B w0 x o=>F.out B w0 x (d.out B w0 x o).drew,fun b x o=>(r.out b o).trans (f.out b x o)⟩
   case measure=>simp[intOf];omega
  ·have A:k=9:=by omega
   subst A;have d:=(show Hid _ from d)
   have f:=(show Hid _ from f)
   go_wp2;go_end0;exact⟨rfl,T,d.out,f.out⟩
theorem dY.over{t:TypeId}(h:dY w ao n c x)(T:dx w g t l)(j:∀ b,b < w.heap.size->b≠g->w'.heap[b]?=w.heap[b]?):dY w' ao n c x:=by
 obtain⟨b,o,m,k,p,q,f⟩:=h.ex;refine⟨b,o,m,k,p,q,f.loc,fun i hi=>?_⟩;have hc:=f.cell i hi;have hb:=aI hc
 have a:b≠g:=by
  intro e;subst e;have d:=T.blk;simp only[World.cell?,d] at hc;simp at hc
 rw[World.cell?_of_block (w:=w) (j b hb a)];exact hc
theorem dx.over{g':Nat}{t:TypeId}(h:dx w g' t l)(hne:g'≠g)(HK:∀ b,b < w.heap.size->b≠g->w'.heap[b]?=w.heap[b]?):dx w' g' t l:=⟨by rw[HK g' h.lt hne];exact h.blk⟩
theorem uk(g:Nat)(W:World):(Instr.sliceAt 181 (.pointer (some ⟨g,0,none⟩)) none none none).run Tryz.prog W=.ok (.slice (some ⟨g,0,none⟩) 36 36) W:=by
 have a:Tryz.prog.arrayLen 181=36:=by kernel_rfl
 have b:Tryz.prog.elem 181=5:=by kernel_rfl
 have hu:Tryz.prog.underlying 181=some (.array (Tryz.prog.arrayLen 181) (Tryz.prog.elem 181)):=by kernel_rfl
 have hs:(sizeOf 5).run Tryz.prog W=.ok 1 W:=by kernel_rfl
 rw[run_sliceAt_array_all W 181 ⟨g,0,none⟩ hu,b,hs,a];simp[Result.andThen,slicedAt,Addr.add]
theorem qU{t:TypeId}(R:dx w g t d)(i:d.length=36)(h:fJ d):∃ S:ByteArray,(convert 96 9 (.slice (some ⟨g,0,none⟩) 36 36)).run Tryz.prog w=Result.ok (.string S) w/\S.data.toList.map (fun c=>(c.toNat:Int))=d:=by
 have a:=run_loadCells_list (P:=Tryz.prog) w ⟨g,0,none⟩ (d.map (Value.int .u8)) (fun j u hu=>by
  rw[List.getElem?_map] at hu
  have b:j < d.length:=by
   rcases Nat.lt_or_ge j d.length with b | b
   ·exact b
   ·rw[List.getElem?_eq_none b] at hu;simp at hu
  rw[List.getElem?_eq_getElem b] at hu;simp at hu;subst hu;have:=R.cell b;rw[bV b] at this;rw[<- this];by_cases f:j=0
  ·subst f;exact congrArg w.cell? (by simp[Addr.add])
  ·exact congrArg w.cell? (by simp[Addr.add,f]))
 rw[List.length_map,i] at a;have e:=(run_convert_bytes_string (P:=Tryz.prog) w 96 9 5 (some ⟨g,0,none⟩) 36 36 cE r6 jk).trans (run_bytesToString w ⟨g,0,none⟩ 36 36 d a);refine⟨_,e,?_⟩;rw[oy d ByteArray.empty];simp only[show ByteArray.empty.data.toList=[] from rfl,List.nil_append,List.map_map]
 conv=>rhs;rw[<- List.map_id d]
 apply List.map_congr_left;intro c hc;have:=h c hc;simp[Function.comp,UInt8.toNat_ofNat'];omega
theorem Bw(h:aU w ao n c x)(hn:n≤274877906944)(hx:x < U36) :
    Calls Tryz.prog 69 #[.agg #[.slice ao n c]] w fun e w'=>∃ S:ByteArray,e=.returned (.string S)∧S.data.toList.map (fun c=>(c.toNat:Int))=dn 36 x∧Below w.heap.size w w':=by
  have m:=lO w (.cells #[.slice ao n c] 32) (.cells ((List.replicate 36 (0:Int)).map (Value.int .u8)).toArray 181);have g:=lV (w.alloc (.cells #[.slice ao n c] 32)) 181 (List.replicate 36 0);rw[show (w.alloc (.cells #[.slice ao n c] 32)).heap.size=w.heap.size+1 by simp] at g;have i:=(eR w (.slice ao n c) 32).alloc (.cells ((List.replicate 36 (0:Int)).map (Value.int .u8)).toArray 181);have h:=h.keep m;go_enter Tryz.func69,Tryz.ntmps69;go_wp2_with fail;change Calls _ _ _ ((w.alloc (.cells #[.slice ao n c] 32)).alloc (.cells ((List.replicate 36 (0:Int)).map (Value.int .u8)).toArray 181)) _
  refine dPairs.mono ?_
  rintro e d ⟨rfl,b⟩;have g:=g.keep b;have i:=i.keep b;have h:=h.keep b;have m:=ax m b;have hlt:=g.lt;clear b
  have o:(d.alloc (.cells Tryz.zeroCells183 183)).heap[d.heap.size]?=some (.cells Tryz.zeroCells183 183 (0,0)):=heap_alloc_new d _
  have u:Tryz.zeroCells183.size=200:=by kernel_rfl
  have A:((cN 100).map (Value.int .u8)).toArray.size=200:=by simp[bZ]
  have P:=ae d (.cells Tryz.zeroCells183 183)
  have p:dx ((d.alloc (.cells Tryz.zeroCells183 183)).setRow d.heap.size ((cN 100).map (Value.int .u8)).toArray) d.heap.size 183 (cN 100):=⟨setRow_heap _ _ _ _ _ _ o⟩
  have s:Below d.heap.size d ((d.alloc (.cells Tryz.zeroCells183 183)).setRow d.heap.size ((cN 100).map (Value.int .u8)).toArray):=below_setRow P (Nat.le_refl _) _;have g:=g.keep s;have i:=i.keep s;have h:=h.keep s;have m:=ax m s;have V:=(show Hid _ from o);have Z:=(show Hid _ from u);have v:=(show Hid _ from A);have Y:=(show Hid _ from s.size);clear o u A P s;generalize hW2:(d.alloc (.cells Tryz.zeroCells183 183)).setRow d.heap.size ((cN 100).map (Value.int .u8)).toArray=w2 at *;have H:=(show Hid _ from hW2);clear hW2;go_wp2_with (refine wpList_store_row rfl 183 (.tmp 4) (.tmp 9) rfl d.heap.size _ rfl rfl 183 _ V.out (by rw[v.out];kernel_rfl) (by rw[v.out,Z.out]) (by simp[Value.oneCell']) ?_;rw[H.out]);obtain⟨X,hX⟩:∃ X:Nat,x=(X:Int):=⟨x.toNat,by have:=h.pZ;omega⟩;subst hX
  have N : X < 1000000000000000000000000000000000000 := by have : U36 = 1000000000000000000000000000000000000 := by decide
                                                           omega
  have L:=(show Hid _ from mY 18 18 (X:Int) (by omega));have q0:=i.cell;go_region_held3 (fun w'=>w'.cell? ⟨w.heap.size,0,none⟩=some (.slice ao n c)) (first | exact(by assumption) | go_keep)
    (first
    | (go_at_call 111;refine(xN 18 (by decide)).mono ?_;rintro e w3 ⟨a3,k3,d3,rfl,Q,hk3,b⟩;have g:=g.drew.keep b;have p:=p.drew.keep b;have i:=i.drew.keep b;have q0:=i.cell;have h:=h.drew.keep b;have m:=ax m.drew b;clear b)
    | (go_at_call 70;refine(nDiv h Q.a (by omega) (by omega) (by decide)).mono ?_;rintro e w4 ⟨a4,k4,d4,a5,k5,d5,rfl,q,f,hk4,hk5,b⟩;have g:=g.keep b;have p:=p.keep b;have i:=i.keep b;have q0:=i.cell;have m:=ax m b;clear b h Q))
  all_goals (
    have q:=q.eqv (show (X:Int) / 10 ^ 18=((X / 1000000000000000000:Nat):Int) from by omega);have f:=f.eqv (show (X:Int) % 10 ^ 18=((X % 1000000000000000000:Nat):Int) from by omega)
    have J:X / 1000000000000000000 < 1000000000000000000:=by omega
    have D:X % 1000000000000000000 < 1000000000000000000:=by omega
    have E:Hid ((X:Int) / 10 ^ 18=((X / 1000000000000000000:Nat):Int)):=by show _=_;omega
    have F:Hid (dn 18 (X:Int)=dn 18 ((X % 1000000000000000000:Nat):Int)):=by
      show _=_
      apply ph (mE (by omega)) (mE (by omega)) (by simp[dF]);rw[re (by omega),re (by omega)];omega
    generalize X / 1000000000000000000=C at *;generalize X % 1000000000000000000=W at *
    have j:w.heap.size+1≠d.heap.size:=by omega
    have B:=zN 18 q (by omega) J g (by simp) (by decide) (by decide) p j;go_wp2_with fail;refine B.mono ?_
    rintro e w5 ⟨rfl,O,z,r⟩;have f:=f.over g r;have p:=p.over (fun e=>j e.symm) r;have R:=z w.heap.size w (by omega) m;clear B g i q0 z r q m;have y:=zN 36 f (by omega) D O (by simp[dF]) (by decide) (by decide) p j;go_wp2_with fail;refine y.mono ?_
    rintro e w6 ⟨rfl,I,t,K⟩;have T:=t w.heap.size w (by omega) R
    clear y f p t K O R)
  all_goals (
    have hL:(List.take (36 - 18) (List.take (18 - 18) (List.replicate 36 (0:Int)) ++ dn 18 (C:Int) ++ List.drop 18 (List.replicate 36 0)) ++ dn 18 (W:Int) ++ List.drop 36 (List.take (18 - 18) (List.replicate 36 (0:Int)) ++ dn 18 (C:Int) ++ List.drop 18 (List.replicate 36 0)))=dn 36 (X:Int):=by
      rw[L.out,E.out,F.out]
      have l1:(dn 18 (C:Int)).length=18:=dF _ _;rw[List.take_append_of_le_length (by simp[l1]),List.drop_of_length_le (l:=List.take (18 - 18) (List.replicate 36 (0:Int)) ++ dn 18 (C:Int) ++ List.drop 18 (List.replicate 36 0)) (by simp[l1])];rw[show List.take (18 - 18) (List.replicate 36 (0:Int))=[] from rfl,List.nil_append,List.take_of_length_le (by omega),List.append_nil]
    rw[hL] at I;obtain⟨S,U,G⟩:= qU I (dF 36 _) (mE (by omega));have M:=uk (w.heap.size+1) w6;clear hL I;go_wp2;go_ret
    exact⟨S,rfl,G,T⟩)
end
end Go.Proofs.YthfepflplbahkaaGreatDoor
namespace Go.Proofs.YthfepflplbahkaaGreatDoor
open Go.RowKit Lim
end Go.Proofs.YthfepflplbahkaaGreatDoor
namespace Go.Proofs.YthfepflplbahkaaGreatDoor
open Go.RowKit Lim
end Go.Proofs.YthfepflplbahkaaGreatDoor
namespace Go.Proofs.YthfepflplbahkaaGreatDoor
open Go.RowKit Lim
end Go.Proofs.YthfepflplbahkaaGreatDoor
namespace Go.Proofs.YthfepflplbahkaaGreatDoor
open Go.RowKit Lim
section
variable {w:World}{x:Int}{ao:Option Addr}{n c:Nat}
def tf(r:Int):List UInt8:=(dn 36 r).map fun c=>UInt8.ofNat c.toNat
def vw(r:Int):List UInt8:=if r=0 then [] else 46 :: Lib.trimRightB (tf r) 48
structure ya(S:ByteArray)(x:Int):Prop where
 ex:∃ Sw:ByteArray,qx Sw (x / U36)/\S.data.toList=Sw.data.toList ++ vw (x % U36)
theorem Bv{S:ByteArray}{r:Int}(h:S.data.toList.map (fun c=>(c.toNat:Int))=dn 36 r):S.data.toList=tf r:=by
 unfold tf;rw[<- h,List.map_map]
 conv=>lhs;rw[<- List.map_id S.data.toList]
 apply List.map_congr_left;intro c _;simp[Function.comp]
def kt(w:World)(x:Int):Prop:=∀ g,fK g->ed g=x->g≠[]->0 < nth g (g.length - 1)->∀ wx,Below w.heap.size w wx->qS (nth g (g.length - 1)) wx
theorem kt.keep{w':World}(h:kt w x)(hb:Below w.heap.size w w'):kt w' x:=fun g h1 h2 h3 h4 wx hx=>h g h1 h2 h3 h4 wx (ax hb hx)
theorem xD(l:List UInt8)(c:UInt8):(Lib.trimRightB l c).length<=l.length:=by
 unfold Lib.trimRightB;rw[List.length_reverse];have:=(List.dropWhile_sublist (fun x=>x == c) (l:=l.reverse)).length_le;rwa [List.length_reverse] at this
theorem rF(r:Int):(tf r).length=36:=by unfold tf;rw[List.length_map,dF]
theorem nText(h:aU w ao n c x)(hn:n<=4294967296)(hA:kt w x) :
  Calls Tryz.prog 67 #[.slice ao n c] w fun e w'=>∃ s,e=.returned (.string s)/\qx s x/\s.size<=40 * n+40/\Below w.heap.size w w':=by
 obtain⟨b,o,l,d,a,g,f,rfl⟩:=h.ex;exact xO ao n c b o l w d a hn g f hA
theorem Ay(h:aU w ao n c x)(hn:n<=4294967000)(hA:kt w (x / U36)) :
  Calls Tryz.prog 35 #[.agg #[.slice ao n c]] w fun e w'=>∃ S:ByteArray,e=.returned (.string S)/\ya S x/\S.size<=40 * n+100/\Below w.heap.size w w':=by
 have f:=ae w (.cells #[.slice ao n c] 32);have y:=eR w (.slice ao n c) 32;have h:=h.keep f;have hA:=hA.keep f;have q0:=y.cell;go_enter Tryz.func35,Tryz.ntmps35;have H:=h.pZ;have s:=DK
 have L:0<=x % U36:=Int.emod_nonneg _ (by omega)
 have u:x % U36 < U36:=Int.emod_lt_of_pos _ s;go_wp2_with fail;refine(dTrunc h (by omega)).mono ?_
 rintro e t ⟨a1,k1,d1,a2,k2,d2,rfl,g,d,J,G,b⟩;have f:=ax f b;have hA:=hA.keep b;clear b h y q0;have m:=ae t (.cells #[.slice a2 k2 d2] 32);have l:=eR t (.slice a2 k2 d2) 32;have g:=g.keep m;have d:=d.keep m;have hA:=hA.keep m;have f:=ax f m;have z:=nText g.a (by omega) hA;clear m hA;go_wp2_with fail;refine z.mono ?_
 rintro e O ⟨q,rfl,p,B,b⟩;have d:=d.keep b;have l:=l.keep b;have f:=ax f b;have F:=l.cell;clear b z g;have o:=D1 d.a (by omega);generalize t.heap.size=N at *;by_cases j:x % U36=0
 ·rw[decide_eq_true j] at o;have r:=(show Hid _ from j)
  clear j;go_wp2_with fail;refine o.mono ?_
  rintro e E ⟨rfl,b⟩;go_wp2;go_ret;exact⟨q,rfl,⟨q,p,by rw[r.out];simp[vw]⟩,by omega,ax f b⟩
 ·rw[decide_eq_false j] at o;have r:=(show Hid _ from j)
  clear j;go_wp2_with fail;refine o.mono ?_
  rintro e E ⟨rfl,b⟩;have d:=d.keep b;have l:=l.keep b;have f:=ax f b;have F:=l.cell;clear b o;go_wp2_with fail;refine(Bw d.a (by omega) u).mono ?_
  rintro e I ⟨S,rfl,hS,b⟩;have i:=Bv hS
  have K:S.size=36:=by
   have:(S.data.toList.map (fun c=>(c.toNat:Int))).length=36:=by rw[hS,dF]
   simpa using this
  have f:=ax f b;clear b hS;have v:=Tryz.strings_TrimRight_one S 48 (by decide) I (by omega);rw[i] at v;generalize hR:(⟨(Lib.trimRightB (tf (x % U36)) 48).toArray⟩:ByteArray)=R at v
  have C:R.size<=36:=by
   have A:=xD (tf (x % U36)) 48;rw[rF] at A;rw[<- hR];simpa[ByteArray.size] using A
  have D:=(show Hid _ from hR)
  clear i hR;go_wp2_with fail;refine v.mono ?_
  rintro e M ⟨rfl,rfl⟩;go_wp2_with fail;go_ret;refine⟨_,rfl,⟨q,p,?_⟩,?_,f⟩
  ·rw[vw,if_neg r.out,<- D.out];simp
  ·show (q ++ (⟨#[46]⟩:ByteArray) ++ R).size<=_
   rw[ByteArray.size_append,ByteArray.size_append];have:(⟨#[46]⟩:ByteArray).size=1:=rfl;omega
end
end Go.Proofs.YthfepflplbahkaaGreatDoor
