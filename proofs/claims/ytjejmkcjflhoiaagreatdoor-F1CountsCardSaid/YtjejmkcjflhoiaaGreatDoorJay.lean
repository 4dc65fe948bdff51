import Derived.Test.YtjejmkcjflhoiaaGreatDoorJab
import Derived.Laws.Tables
import Derived.Laws.Rows
import Derived.Laws.CopyOwn
import Derived.Test.YtjejmkcjflhoiaaGreatDoorJam
import Derived.Lib.AppendStr
import Derived.Shelf.Strings.Trim
import Derived.Shelf.LaysM
import Derived.Shelf.Strings.Search1
import Derived.Shelf.Strconv.AppendUint10
import Derived.Test.YtjejmkcjflhoiaaGreatDoorProg
import Derived.Test.YtjejmkcjflhoiaaGreatDoorJaa
import Derived.Deep.RegionLaw
import Derived.Deep.RegionHeld3
set_option maxRecDepth 100000
set_option maxHeartbeats 8000000
namespace Go.Proofs.YtjejmkcjflhoiaaGreatDoor
open Go.RowKit Lim
section
variable {w:World}{g i:Nat}{l:List Int}
structure dE(w:World)(g:Nat)(t:TypeId)(l:List Int):Prop where
 blk:w.heap[g]?=some (.cells (l.map (Value.int .u8)).toArray t (0,0))
theorem dE.lt{t:TypeId}(h:dE w g t l):g < w.heap.size:=lt_of_block h.blk
theorem dE.keep{w':World}{t:TypeId}(h:dE w g t l)(hb:Below w.heap.size w w'):dE w' g t l:=⟨by rw[hb.block g h.lt];exact h.blk⟩
theorem dE.cell{t:TypeId}(h:dE w g t l)(hi:i < l.length):w.cell? ⟨g,i,none⟩=some (.int .u8 (nth l i)):=by
 simp[World.cell?,h.blk,hi,b8 hi]
theorem dE.free{t:TypeId}(h:dE w g t l)(i:Nat):w.frozen? ⟨g,i,none⟩=false:=by simp[World.frozen?,h.blk]
theorem dE.set{t:TypeId}(h:dE w g t l)(i:Nat)(x:Int):dE (w.setCell ⟨g,i,none⟩ (.int .u8 x)) g t (l.set i x):=⟨by
 have hb:=h.blk;simp only[World.setCell,Array.getElem?_modify,if_true,hb]
 simp⟩
theorem dE.other{g':Nat}{t:TypeId}(h:dE w g t l)(hne:g≠g')(u:Value):dE (w.setCell ⟨g',i,none⟩ u) g t l:=⟨by rw[Below.heap_setCell w _ u g hne];exact h.blk⟩
theorem dE.drew{t:TypeId}(h:dE w g t l):dE w.drew g t l:=⟨h.blk⟩
theorem mn(w:World)(t:TypeId)(l:List Int):dE (w.alloc (.cells (l.map (Value.int .u8)).toArray t)) w.heap.size t l:=⟨by
 show (w.heap.push _)[w.heap.size]?=_
 rw[Array.getElem?_push_size]⟩
def cY:Nat->List Int
 | 0=>[]
 | k+1=>cY k ++ [48+(k:Int) / 10,48+(k:Int) % 10]
theorem cj(k:Nat):(cY k).length=2 * k:=by
 induction k with
 | zero=>rfl
 | succ k ih=>simp[cY,ih];omega
theorem xu{k:Nat}(h:i < k):nth (cY k) (2 * i)=48+(i:Int) / 10/\nth (cY k) (2 * i+1)=48+(i:Int) % 10:=by
 induction k with
 | zero=>omega
 | succ k ih =>
  have a:=cj k;by_cases e:i=k
  ·subst e;rw[cY,bP (by omega),bP (by omega),a,Nat.sub_self,show 2 * i+1 - 2 * i=1 by omega];exact⟨rfl,rfl⟩
  ·rw[cY,dh (by omega),dh (by omega)];exact ih (by omega)
theorem dPairs:Calls Tryz.prog 90 #[] w fun e w'=>e=.returned (.agg ((cY 100).map (Value.int .u8)).toArray)/\Below w.heap.size w w':=by
 go_enter Tryz.func90,Tryz.ntmps90;go_wp2
 have n:Tryz.zeroCells164=((List.replicate 200 (0:Int)).map (Value.int .u8)).toArray:=by kernel_rfl
 rw[n];have b:=mn (w.alloc (.cells ((List.replicate 200 (0:Int)).map (Value.int .u8)).toArray 164)) 164 (List.replicate 200 0);rw[show (w.alloc (.cells ((List.replicate 200 (0:Int)).map (Value.int .u8)).toArray 164)).heap.size=w.heap.size+1 by simp] at b;have d:=(mn w 164 (List.replicate 200 0)).keep (ae _ (.cells ((List.replicate 200 (0:Int)).map (Value.int .u8)).toArray 164));have f:=qy w (.cells ((List.replicate 200 (0:Int)).map (Value.int .u8)).toArray 164) (.cells ((List.replicate 200 (0:Int)).map (Value.int .u8)).toArray 164);clear n;generalize (w.alloc (.cells ((List.replicate 200 (0:Int)).map (Value.int .u8)).toArray 164)).alloc (.cells ((List.replicate 200 (0:Int)).map (Value.int .u8)).toArray 164)=v at *;go_loopw [3] (fun m wr=>∃ k:Nat,k<=100/\m=.int .i64 k/\dE wr (w.heap.size+1) 164 (cY k ++ List.replicate (200 - 2 * k) 0)/\dE wr w.heap.size 164 (List.replicate 200 0)/\Below w.heap.size w wr) (fun m _=>100 - (intOf m).toNat)
 case atStart=>exact⟨0,by omega,rfl,b,d,f⟩
 case round =>
  clear b d f;obtain⟨k,u,rfl,b,d,f⟩:=hrel;by_cases r:k < 100
  ·have s:(k:Int) < 100:=by omega
   have hlen:(cY k ++ List.replicate (200 - 2 * k) (0:Int)).length=200:=by rw[List.length_append,cj,List.length_replicate];omega
   have o:nth (cY k ++ List.replicate (200 - 2 * k) (0:Int)) (k * 2)=0:=by
    rw[bP (by rw[cj];omega),b8 (by rw[cj,List.length_replicate];omega)];simp
   have e1:nth (cY k ++ List.replicate (200 - 2 * k) (0:Int)) (k * 2+1)=0:=by
    rw[bP (by rw[cj];omega),b8 (by rw[cj,List.length_replicate];omega)];simp
   have c1:=b.cell (i:=k * 2) (by rw[hlen];omega);have c2:=b.cell (i:=k * 2+1) (by rw[hlen];omega);rw[o] at c1;rw[e1] at c2;have f1:=b.free (k * 2);have f2:=b.free (k * 2+1)
   have t:Hid (dE ((wr.setCell ⟨w.heap.size+1,k * 2,none⟩ (.int .u8 (48+(k:Int) / 10))).setCell ⟨w.heap.size+1,k * 2+1,none⟩ (.int .u8 (48+(k:Int) % 10))) (w.heap.size+1) 164 (cY (k+1) ++ List.replicate (200 - 2 * (k+1)) 0)):=by
    have:=(b.set (k * 2) (48+(k:Int) / 10)).set (k * 2+1) (48+(k:Int) % 10)
    have hs:((cY k ++ List.replicate (200 - 2 * k) (0:Int)).set (k * 2) (48+(k:Int) / 10)).set (k * 2+1) (48+(k:Int) % 10)=cY (k+1) ++ List.replicate (200 - 2 * (k+1)) 0:=by
     rw[show 200 - 2 * k=200 - 2 * (k+1)+1+1 by omega,List.replicate_succ,List.replicate_succ,cY];rw[show k * 2=(cY k).length by rw[cj];omega];rw[List.set_append_right _ _ (Nat.le_refl _),Nat.sub_self,List.set_cons_zero,List.set_append_right _ _ (by omega),Nat.add_sub_cancel_left,List.set_cons_succ,List.set_cons_zero];simp
    rw[hs] at this;exact this
   have q:Hid (dE ((wr.setCell ⟨w.heap.size+1,k * 2,none⟩ (.int .u8 (48+(k:Int) / 10))).setCell ⟨w.heap.size+1,k * 2+1,none⟩ (.int .u8 (48+(k:Int) % 10))) w.heap.size 164 (List.replicate 200 0)):=(d.other (by omega) _).other (by omega) _
   have l:Hid (Below w.heap.size w ((wr.setCell ⟨w.heap.size+1,k * 2,none⟩ (.int .u8 (48+(k:Int) / 10))).setCell ⟨w.heap.size+1,k * 2+1,none⟩ (.int .u8 (48+(k:Int) % 10)))):=(f.setCell (p:=⟨w.heap.size+1,k * 2,none⟩) (by show w.heap.size<=w.heap.size+1;omega) _).setCell (p:=⟨w.heap.size+1,k * 2+1,none⟩) (by show w.heap.size<=w.heap.size+1;omega) _;clear b d f o e1 hlen;go_wp2;go_roundw
   case rel=>exact⟨k+1,by omega,by go_num,t.out,q.out,l.out⟩
   case measure=>simp[intOf];omega
  ·have j:k=100:=by omega
   subst j;rw[show cY 100 ++ List.replicate (200 - 2 * 100) (0:Int)=cY 100 by simp] at b
   have c:((cY 100).map (Value.int .u8)).toArray.size=200:=by simp[cj]
   have l:=(show Hid _ from f)
   go_wp2_with (first
    | (refine wpList_load_row rfl 164 (.tmp 1) rfl (w.heap.size+1) rfl 164 _ (0,0) _ b.blk Tryz.underlying164 rfl (by rw[c];kernel_rfl) ?_)
    | (refine wpList_store_row rfl 164 (.tmp 0) (.tmp 18) rfl w.heap.size _ rfl rfl 164 _ d.blk (by rw[c];kernel_rfl) (by rw[c];simp) (by simp[Value.oneCell']) ?_))
   have g:=setRow_heap wr w.heap.size _ ((cY 100).map (Value.int .u8)).toArray _ _ d.blk;refine bodyPost_ret (results_cell_row rfl _ _ w.heap.size 164 _ (0,0) _ rfl g Tryz.underlying164 rfl (by rw[c];kernel_rfl)) rfl ?_
   exact⟨rfl,below_setRow l.out (Nat.le_refl _) _⟩
end
end Go.Proofs.YtjejmkcjflhoiaaGreatDoor
namespace Go.Proofs.YtjejmkcjflhoiaaGreatDoor
open Go.RowKit Lim
section
variable {l:List Int}{w:World}{B n:Nat}{v:Value}{xs:List Value}
def eC:List Int->Int
 | []=>0
 | x :: l=>x+10000000000000000000 * eC l
def fR(l:List Int):Prop:=∀ x∈l,0<=x/\x < 10000000000000000000
theorem lK(a b:List Int):eC (a ++ b)=eC a+10000000000000000000 ^ a.length * eC b:=by
 induction a with
 | nil=>simp[eC]
 | cons x a ih=>simp only[List.cons_append,eC,ih,List.length_cons,Int.pow_succ];grind
theorem iq(h:fR l):0<=eC l:=by
 induction l with
 | nil=>simp[eC]
 | cons x l ih=>have:=h x List.mem_cons_self;have:=ih fun y hy=>h y (List.mem_cons_of_mem _ hy);simp only[eC];omega
def lenOf:Value->Nat | .slice _ n _=>n | _=>0
theorem tu:Tryz.prog.underlying 29=some (.slice 22):=by kernel_rfl
theorem Dp{e:TypeId}(h:w.ownsRow B e 1 v n xs):lenOf v=n:=by
 rcases h.2 with⟨rfl,h0⟩ | ⟨g',cap,cur,rfl,_⟩
 ·simp[lenOf,h0]
 ·rfl
theorem eD.wr{b o:Nat}{w':World}(h:eD w B v l)(hw:Wr b o n w w')(hb:b < B):eD w' B v l:=by
 obtain⟨e,a⟩:=h;refine⟨e,?_⟩;rcases a with a | ⟨g,cap,cur,rfl,c,f,d⟩
 ·exact .inl a
 ·exact .inr ⟨g,cap,cur,rfl,c,by rw[hw.block g (by omega)];exact f,d⟩
theorem eD.mono{B':Nat}(h:eD w B v l)(hB:B'<=B):eD w B' v l:=by
 obtain⟨h1,h2⟩:=h;refine⟨h1,?_⟩;rcases h2 with h2 | ⟨g,cap,cur,rfl,hB1,hr⟩
 ·exact .inl h2
 ·exact .inr ⟨g,cap,cur,rfl,by omega,hr⟩
theorem nO{k:Nat}{V R:Int}(d:10000000000000000000 ^ k * R<=V)(a:1<=R)(e:V < 18446744073709551616 ^ n):k<=2 * n:=by
 by_cases c:k<=2 * n
 ·exact c
 ·have e1:(18446744073709551616:Int) ^ n<=(4294967296 ^ 2) ^ n:=by rw[show (4294967296:Int) ^ 2=18446744073709551616 from rfl]; exact Int.le_refl _
  rw[<- Int.pow_mul] at e1
  have e2:(4294967296:Int) ^ (2 * n)<=4294967296 ^ k:=by
   have:(4294967296:Nat) ^ (2 * n)<=4294967296 ^ k:=Nat.pow_le_pow_right (by decide) (by omega)
   have a1:((4294967296 ^ (2 * n):Nat):Int)=(4294967296:Int) ^ (2 * n):=by rw[Int.natCast_pow];rfl
   have a2:((4294967296 ^ k:Nat):Int)=(4294967296:Int) ^ k:=by rw[Int.natCast_pow];rfl
   omega
  have e3:(4294967296:Int) ^ k<=10000000000000000000 ^ k:=by
   have:(4294967296:Nat) ^ k<=10000000000000000000 ^ k:=Nat.pow_le_pow_left (by omega) _
   have a1:((4294967296 ^ k:Nat):Int)=(4294967296:Int) ^ k:=by rw[Int.natCast_pow];rfl
   have a2:((10000000000000000000 ^ k:Nat):Int)=(10000000000000000000:Int) ^ k:=by rw[Int.natCast_pow];rfl
   omega
  have b:(10000000000000000000:Int) ^ k * 1<=10000000000000000000 ^ k * R:=Int.mul_le_mul_of_nonneg_left a (Int.le_of_lt (Int.pow_pos (by decide)));omega
theorem kP(ao:Option Addr)(n c b o:Nat)(l:List Int)(w:World)(hl:l.length=n)(hc:n<=c)(hbig:n<=1099511627776)(wl:Words l)(ha:At w ao b o l) :
  Calls Tryz.prog 83 #[.slice ao n c] w fun e w'=>∃ v g,e=.returned v/\eD w' w.heap.size v g/\fR g/\eC g=val l/\(g≠[]->0 < nth g (g.length - 1))/\g.length<=2 * n+1/\Below w.heap.size w w':=by
 obtain⟨i0,hi,hz0,hz1,Q⟩:=info_parts il;have hV:=dJ wl;rw[hl] at hV;go_enter Tryz.func83,Tryz.ntmps83;go_wp2_with fail;refine(jO ao n c b o l w hl hc hbig ha).mono ?_
 rintro e w1 ⟨rfl,m,aa⟩;have hn:=bI l;have ab:=aL l;have hI:=cE wl;have H:=m.lt;go_wp2_with fail;go_loopw [3,4] (fun tg tr wr=>∃ (g lr:List Int) (N C:Nat),tr=.slice (some ⟨w.heap.size,0,none⟩) N C/\Hid (N=lr.length)/\N<=C/\N<=n/\Hid (lenOf tg=g.length)/\eD wr (w.heap.size+1) tg g/\fR g/\Words lr/\Hid (aI lr=lr.length)/\Hid (eC g+10000000000000000000 ^ g.length * val lr=val l)/\Hid (g≠[]->val lr=0->0 < nth g (g.length - 1))/\At wr (some ⟨w.heap.size,0,none⟩) w.heap.size 0 lr/\dI wr w.heap.size 0 N/\w.heap.size < wr.heap.size/\Below w.heap.size w wr) (fun tg _ _=>2 * n+2 - lenOf tg)
 case atStart=>exact⟨[],norm l,aI l,aI l,rfl,ab.symm,Nat.le_refl _,by omega,rfl,World.ownsRow_nil _ _ _ _,fun x hx=>by simp at hx,hI.1,hI.2.1,by show _=_;simp[eC,dj],fun h=>absurd rfl h,m.at,m.free _ _,H,aa⟩
 case round =>
  clear m aa ab hI H hn;obtain⟨g,lr,N,C,rfl,hN,Y,hNn,X,B,z,P,U,f,A,Z,L,hsz,M⟩:=hrel;by_cases hlt:0 < N
  ·go_wp2_with fail;refine(hH (some ⟨w.heap.size,0,none⟩) w.heap.size 0 N C 10000000000000000000 lr wr hN.out.symm (by omega) Y (by decide) (by decide) P Z L).mono ?_
   rintro e w2 ⟨left,q,rfl,hf0,hf1,hlz,hwz,I,d,O⟩
   have ac:g.length<=2 * n:=by
    have hn0:=hN.out;have hp:=pF P (by have:=U.out;omega);have hg0:=iq z;have hv:=f.out;exact nO (V:=val l) (R:=val lr) (by omega) (by omega) hV
   have s:=B.wr d (by omega)
   have F:w2.ownsRow (w.heap.size+1) 22 1 _ g.length (g.map (Value.int .u64)):=s
   have hsz2:wr.heap.size<=w2.heap.size:=Nat.le_of_eq d.size.symm
   have hsz2':w2.heap.size<=wr.heap.size:=Nat.le_of_eq d.size;generalize hGL:g.length=G at *;have D:=(show Hid _ from hGL)
   clear hGL;go_wp2_with (at_builtin;refine wpList_append_own _ rfl _ _ 29 rfl (w.heap.size+1) 22 i0 (.int .u64 0) 1 8 tu hi hz0 hz1 Q rfl (by decide) _ _ _ rfl (F.alloc _) ⟨w2.heap.size,0,none⟩ 1 1 [.int .u64 left] rfl rfl ?c1 ?c2 ?c3 ?c4 ?c5 ?_)
   case c1=>exact cell_one_new _ _ _
   case c2=>intro u hu;simp at hu;subst hu;rfl
   case c3=>unfold maxLen;omega
   case c4=>omega
   case c5=>simp;omega
   intro v' w3 j y _
   have r:Below (w.heap.size+1) w2 w3:=((Below.refl _ _).alloc (by omega) _).grown y (by simp;omega) (uf s);have t:=I.below r (.inr (by omega));have E:=d.free L
   have hfr3:dI w3 w.heap.size 0 N:=fun i hi=>by rw[r.frozen (p:=⟨w.heap.size,0+i,none⟩) (by show w.heap.size < _;omega)];exact E i hi
   have hM:eD w3 (w.heap.size+1) v' (g ++ [left]):=by
    unfold eD;rw[List.length_append,D.out,List.map_append];exact j
   have hlv:=Dp j;have hsz3:=r.size
   have HB:Below w.heap.size w w3:=(M.trans (d.below (Nat.le_refl _))).trans (r.mono (by omega));have t3:=bH (some ⟨w.heap.size,0,none⟩) N C q w3 hlz Y (by omega) t.cells;have hz1:=bI q;have Q:=aL q;have T:=t.sub (aI q);have hz4:=oH q;have J:=dj q;have hz6:=hwz.norm;rw[show q.take (aI q)=norm q from rfl] at T
   have hvl:0 < val lr:=pF P (by have:=U.out;have:=hN.out;omega)
   have HV:Hid (eC (g ++ [left])+10000000000000000000 ^ (g ++ [left]).length * val (norm q)=val l):=by
    show _=_
    rw[lK,List.length_append,J,<- f.out,<- O,D.out,List.length_singleton,Int.pow_succ];simp only[eC];grind
   have HT:Hid ((g ++ [left])≠[]->val (norm q)=0->0 < nth (g ++ [left]) ((g ++ [left]).length - 1)):=by
    intro _ S;rw[List.length_append,List.length_singleton,Nat.add_sub_cancel,bP (Nat.le_refl _),Nat.sub_self,cQ];rw[J] at S;rw[S] at O;omega
   have HL:Hid (lenOf v'=(g ++ [left]).length):=by show _=_;rw[hlv,List.length_append,D.out];rfl
   have HO:fR (g ++ [left]):=by
    intro x hx;rcases List.mem_append.1 hx with e | e
    ·exact z x e
    ·simp at e;subst e;exact⟨hf0,hf1⟩
   clear j y F s B t I d O Z L E f A M r J;generalize aI q=K at *;generalize norm q=R at *;go_wp2_with fail;refine t3.mono ?_
   rintro e w6 ⟨rfl,rfl⟩;go_wp2;go_roundw
   case rel=>exact⟨g ++ [left],R,K,K,rfl,Q.symm,Nat.le_refl _,by omega,HL,hM,HO,hz6,hz4,HV,HT,T,fun i hi=>hfr3 i (by omega),by omega,HB⟩
   case measure =>
    rw[HL.out,X.out,List.length_append,D.out,List.length_singleton];omega
  ·have hN0:lr=[]:=List.eq_nil_of_length_eq_zero (by have:=hN.out; omega);subst hN0;have hv:=f.out;rw[show val []=0 from rfl,Int.mul_zero,Int.add_zero] at hv;have ht:=fun h=>A.out h rfl
   have ac:g.length<=2 * n+1:=by
    have hg0:=iq z;by_cases S:g=[]
    ·subst S;simp
    ·have hne:g.length≠0:=fun e=>S (List.eq_nil_of_length_eq_zero e)
     have hlast:=ht S
     have hsp:g=g.take (g.length - 1) ++ [nth g (g.length - 1)]:=by
      rw[<- dY (by omega),show g.length - 1+1=g.length from by omega,List.take_of_length_le (Nat.le_refl _)]
     have hgv:eC g=eC (g.take (g.length - 1))+10000000000000000000 ^ (g.length - 1) * nth g (g.length - 1):=by
      conv=>lhs;rw[hsp]
      rw[lK,List.length_take,Nat.min_eq_left (by omega)];simp[eC]
     have h3:=iq (l:=g.take (g.length - 1)) (fun x hx=>z x (List.mem_of_mem_take hx));have:=nO (V:=val l) (R:=nth g (g.length - 1)) (k:=g.length - 1) (by omega) (by omega) hV;omega
   have W:eD wr w.heap.size _ g:=B.mono (by omega);clear f A X B hN;have HV:=(show Hid _ from hv)
   clear hv;go_wp2;go_ret;exact⟨_,g,rfl,W,z,HV.out,ht,ac,M⟩
end
end Go.Proofs.YtjejmkcjflhoiaaGreatDoor
namespace Go.Proofs.YtjejmkcjflhoiaaGreatDoor
open Go.RowKit Lim
section
variable {g l:List Int}{w:World}{v:Value}
def sr(u:Int)(wx:World):Prop:=Calls Tryz.prog 84 #[.slice none 0 0,.int .u64 u,.int .i64 10] wx fun e w'=>∃ v d,e=.returned v/\fL w' wx.heap.size v d/\fQ d/\dvI d=u/\0 < d.length/\d.length<=20/\nth d 0≠48/\Below wx.heap.size wx w'
theorem jB:Tryz.prog.underlying 9=some .string:=by kernel_rfl
theorem rj:Tryz.prog.underlying 5=some (.int .u8):=by kernel_rfl
theorem pE(d:List Int):∀ r:ByteArray,(d.foldl (fun r n=>r.push (UInt8.ofNat n.toNat)) r).data.toList=r.data.toList ++ d.map (fun n=>UInt8.ofNat n.toNat):=by
 induction d with
 | nil=>intro r;simp
 | cons c d ih=>intro r;rw[List.foldl_cons,ih];simp
theorem o5{i:Nat}(h:i < g.length):eC (g.drop i)=nth g i+10000000000000000000 * eC (g.drop (i+1)):=by
 rw[List.drop_eq_getElem_cons h,eC,b8 h]
theorem fL.open{B:Nat}(h:fL w B v l)(d:0 < l.length):∃ g c,v=.slice (some ⟨g,0,none⟩) l.length c/\l.length<=c/\B<=g/\AtB w (some ⟨g,0,none⟩) g 0 l/\dI w g 0 l.length:=by
 obtain⟨_,b⟩:=h;rcases b with⟨rfl,h0⟩ | ⟨g,cap,cur,rfl,hB,hh,hle,hmx,hsz,htk⟩
 ·omega
 ·refine⟨g,cap,rfl,hle,hB,⟨.inr rfl,fun i hi=>?_⟩,fun i hi=>?_⟩
  ·have e:cur.toList[i]?=some (.int .u8 (nth l i)):=by
    have a:(cur.toList.take (l.length * 1))[i]?=some (.int .u8 (nth l i)):=by
     rw[htk,List.getElem?_map,List.getElem?_eq_getElem hi,b8 hi];rfl
    rwa [Nat.mul_one,List.getElem?_take_of_lt hi] at a
   simp only[World.cell?,hh];simpa using e
  ·simp[World.frozen?,hh]
structure qZ(s:ByteArray)(n:Int):Prop where
 bytes:∃ d:List Int,s.data.toList.map (fun c=>(c.toNat:Int))=d/\fQ d/\dvI d=n/\0 < d.length/\(d.length=1\/nth d 0≠48)
theorem Bj(ao:Option Addr)(n c b o:Nat)(l:List Int)(w:World)(hl:l.length=n)(hc:n<=c)(hbig:n<=4294967296)(wl:Words l)(ha:At w ao b o l)(H:∀ g,fR g->eC g=val l->g≠[]->0 < nth g (g.length - 1)->∀ wx,Below w.heap.size w wx->sr (nth g (g.length - 1)) wx) :
  Calls Tryz.prog 51 #[.slice ao n c] w fun e w'=>∃ s,e=.returned (.string s)/\qZ s (val l)/\s.size<=40 * n+40/\Below w.heap.size w w':=by
 go_enter Tryz.func51,Tryz.ntmps51;go_wp2_with fail;refine(kP ao n c b o l w hl hc (by omega) wl ha).mono ?_
 rintro e w1 ⟨v,g,rfl,hmg,Z,z,K,hgl,B⟩;obtain⟨ag,cg,rfl,hgc,_,bg,X,hBg,p,_⟩:=hmg.open;have Y:=B.size;by_cases y:g=[]
 ·subst y
  have W:val l=0:=by rw[<- z];rfl
  have HV0:=(show Hid _ from W)
  clear z W;go_wp2;go_ret;refine⟨_,rfl,⟨[48],rfl,fun c hc=>by rw[List.mem_singleton] at hc;subst hc;decide,by rw[HV0.out];rfl,by simp,.inl rfl⟩,?_,B⟩
  show 1<=_;omega
 ·have hgp:0 < g.length:=Nat.pos_of_ne_zero fun e=>y (List.eq_nil_of_length_eq_zero e)
  rcases X with e | rfl
  ·exact absurd e y
  have tA:=H g Z z y (K y);have HGV:=(show Hid _ from z)
  have f:=p.cell (g.length - 1) (by omega);rw[Nat.zero_add] at f;obtain⟨m,hm⟩:∃ m,g.length=m+1:=⟨g.length - 1,by omega⟩
  rw[hm,Nat.add_sub_cancel] at f tA;have O:=(show Hid _ from hm)
  rw[hm]
  have hu0:(m:Int) < (m:Int)+1:=by omega
  clear z K H hm hgc
  have hmg1:m+1<=2 * n+1:=by have:=O.out;omega
  generalize hU:nth g m=U at *;have HU:=(show Hid _ from hU)
  clear hU;go_wp2_with fail;have tB:=tA w1 B;unfold sr at tB;clear tA;refine tB.mono ?_
  rintro e w2 ⟨v2,d0,rfl,V,hd2,I,F,R,G,A⟩;have hsz2:=A.size;have T:=p.keep A;go_wp2_with fail;go_loopw [5,21] (fun tt ti wr=>∃ (k:Nat) (d:List Int),k<=m/\ti=.int .i64 k/\fL wr w1.heap.size tt d/\fQ d/\Hid (dvI d=eC (g.drop (m - k)))/\0 < d.length/\d.length<=20+19 * k/\nth d 0≠48/\Below w1.heap.size w1 wr) (fun _ ti _=>m - (intOf ti).toNat)
  case atStart=>exact⟨0,d0,Nat.zero_le _,rfl,V,hd2,by show _=_;rw[I,Nat.sub_zero,o5 (by have:=O.out;omega),List.drop_of_length_le (by have:=O.out;omega),HU.out];simp[eC],F,by omega,G,A⟩
  case round =>
   clear V hd2 I F R G A T;obtain⟨k,d,hk,rfl,Q,L,D,t,hdl1,E,C⟩:=hrel;by_cases hlt:k < m
   ·obtain⟨h,hh⟩:∃ h:Nat,(m:Int) - 1 - k=h:=⟨m - 1 - k,by omega⟩
    have hh1:(h:Int) < (m:Int)+1:=by omega
    have hhm:m - k=h+1:=by omega
    have J:=p.below (C.mono (Nat.le_refl _)) (.inr (aK f));have hcw:=J.cell h (by have:=O.out;omega);rw[Nat.zero_add] at hcw;have aa:=Z (nth g h) (lZ (by have:=O.out;omega));have HD:=D.out;rw[hhm] at HD
    have HD:Hid (dvI d=eC (g.drop (h+1))):=HD
    have HG:Hid (eC (g.drop (m - (k+1)))=nth g h+10000000000000000000 * eC (g.drop (h+1))):=by
     show _=_
     rw[show m - (k+1)=h from by omega,o5 (by have:=O.out;omega)]
    have HX:Hid (nth g h=nth g h):=rfl;generalize nth g h=x at *;clear J D;go_wp2_with (go_at_call 85;refine(lU w1.heap.size _ d x _ C.size Q (by omega) aa.1 aa.2).mono ?_;rintro e w5 ⟨v5,q,rfl,hm5,hq5,hql,hqv,hb5⟩);go_roundw
    case rel =>
     refine⟨k+1,d ++ q,by omega,by go_num,hm5,?_,?_,by simp;omega,by simp;omega,?_,C.trans hb5⟩
     ·intro c hc;rcases List.mem_append.1 hc with e | e
      ·exact L c e
      ·exact hq5 c e
     ·show _=_
      rw[fX,hql,hqv,HD.out,HG.out,show (10:Int) ^ 19=10000000000000000000 from rfl];grind
     ·rw[dh t];exact E
    case measure=>simp[intOf];omega
   ·have hkm:k=m:=by omega
    subst hkm;rw[Nat.sub_self,List.drop_zero] at D;obtain⟨gb,cb,rfl,hdc,hgb,hatd,_⟩:=Q.open t
    have i:=run_loadCells_list (P:=Tryz.prog) wr ⟨gb,0,none⟩ (d.map (Value.int .u8)) (fun j u hu=>by
     rw[List.getElem?_map] at hu
     have N:j < d.length:=by
      rcases Nat.lt_or_ge j d.length with N | N
      ·exact N
      ·rw[List.getElem?_eq_none N] at hu;simp at hu
     rw[List.getElem?_eq_getElem N] at hu;simp at hu;subst hu;have:=hatd.cell j N;rw[b8 N] at this;rw[<- this];by_cases hj0:j=0
     ·subst hj0;exact congrArg wr.cell? (by simp[Addr.add])
     ·exact congrArg wr.cell? (by simp[Addr.add,hj0]))
    rw[List.length_map] at i;have M:=(run_convert_bytes_string (P:=Tryz.prog) wr 87 9 5 (some ⟨gb,0,none⟩) d.length cb cN rj jB).trans (run_bytesToString wr ⟨gb,0,none⟩ d.length cb d i);obtain⟨S,hS⟩:∃ S,d.foldl (fun r n=>r.push (UInt8.ofNat n.toNat)) ByteArray.empty=S:=⟨_,rfl⟩
    rw[hS] at M;have HS:=(show Hid _ from hS)
    clear hS i
    have HB:Below w.heap.size w wr:=B.trans (C.mono Y);go_wp2;go_ret;have e1:=pE d ByteArray.empty;rw[HS.out] at e1
    have e2:S.data.toList.map (fun c=>(c.toNat:Int))=d:=by
     rw[e1];simp only[show ByteArray.empty.data.toList=[] from rfl,List.nil_append,List.map_map]
     conv=>rhs;rw[<- List.map_id d]
     apply List.map_congr_left;intro c hc;have:=L c hc;simp[Function.comp,UInt8.toNat_ofNat'];omega
    refine⟨S,rfl,⟨d,e2,L,by rw[D.out,HGV.out],t,.inr E⟩,?_,HB⟩;have:S.size=d.length:=by rw[<- e2];simp
    omega
end
end Go.Proofs.YtjejmkcjflhoiaaGreatDoor
namespace Go.Proofs
open Go.Shelf
def Tryz.sk:Go.Shelf.Ren:=⟨fun | 162=>52 | 232=>86 | 227=>87 | 234=>88 | 236=>89 | 228=>138 | 271=>139 | 151=>140 | 120=>189 | 197=>190 | 152=>191 | 260=>223 | 137=>224 | 119=>225 | 224=>226 | 225=>227 | 217=>244 | 266=>252 | n=>n,fun | 9=>9 | 4=>4 | 3=>3 | 5=>5 | 117=>158 | 116=>157 | 0=>0 | 124=>161 | 21=>21 | 105=>213 | 46=>249 | 119=>228 | 139=>326 | 138=>325 | n=>n,fun | 3=>3 | 4=>4 | n=>n⟩
theorem Tryz.EE:Go.Proofs.Lays.n162 Tryz.prog Tryz.sk:={
 mixed:=by kernel_rfl
 f119:=Tryz.func225.trans (congrArg some (by kernel_rfl))
 f120:=Tryz.func189.trans (congrArg some (by kernel_rfl))
 f137:=Tryz.func224.trans (congrArg some (by kernel_rfl))
 f151:=Tryz.func140.trans (congrArg some (by kernel_rfl))
 f152:=Tryz.func191.trans (congrArg some (by kernel_rfl))
 f162:=Tryz.func52.trans (congrArg some (by kernel_rfl))
 f197:=Tryz.func190.trans (congrArg some (by kernel_rfl))
 f217:=Tryz.func244.trans (congrArg some (by kernel_rfl))
 f224:=Tryz.func226.trans (congrArg some (by kernel_rfl))
 f225:=Tryz.func227.trans (congrArg some (by kernel_rfl))
 f227:=Tryz.func87.trans (congrArg some (by kernel_rfl))
 f228:=Tryz.func138.trans (congrArg some (by kernel_rfl))
 f232:=Tryz.func86.trans (congrArg some (by kernel_rfl))
 f234:=Tryz.func88.trans (congrArg some (by kernel_rfl))
 f236:=Tryz.func89.trans (congrArg some (by kernel_rfl))
 f260:=Tryz.func223.trans (congrArg some (by kernel_rfl))
 f266:=Tryz.func252.trans (congrArg some (by kernel_rfl))
 f271:=Tryz.func139.trans (congrArg some (by kernel_rfl))
 t0:=Tryz.underlying0
 a0:=Tryz.isAgg0
 z0:=Tryz.sizeOf0
 v0:=Tryz.zeroValue0
 t3:=Tryz.underlying3
 a3:=Tryz.isAgg3
 z3:=Tryz.sizeOf3
 v3:=Tryz.zeroValue3
 t4:=Tryz.underlying4
 a4:=Tryz.isAgg4
 z4:=Tryz.sizeOf4
 v4:=Tryz.zeroValue4
 t5:=Tryz.underlying5
 a5:=Tryz.isAgg5
 z5:=Tryz.sizeOf5
 v5:=Tryz.zeroValue5
 t9:=Tryz.underlying9
 a9:=Tryz.isAgg9
 z9:=Tryz.sizeOf9
 v9:=Tryz.zeroValue9
 t21:=Tryz.underlying21
 a21:=Tryz.isAgg21
 z21:=Tryz.sizeOf21
 v21:=Tryz.zeroValue21
 t46:=Tryz.underlying249
 a46:=Tryz.isAgg249
 z46:=Tryz.sizeOf249
 v46:=Tryz.zeroValue249
 t105:=Tryz.underlying213
 a105:=Tryz.isAgg213
 z105:=Tryz.sizeOf213
 v105:=Tryz.zeroValue213
 t116:=Tryz.underlying157
 a116:=Tryz.isAgg157
 z116:=Tryz.sizeOf157
 t117:=Tryz.underlying158
 a117:=Tryz.isAgg158
 z117:=Tryz.sizeOf158
 v117:=Tryz.zeroValue158
 t119:=Tryz.underlying228
 a119:=Tryz.isAgg228
 z119:=Tryz.sizeOf228
 t124:=Tryz.underlying161
 a124:=Tryz.isAgg161
 z124:=Tryz.sizeOf161
 v124:=Tryz.zeroValue161
 t138:=Tryz.underlying325
 a138:=Tryz.isAgg325
 z138:=Tryz.sizeOf325
 v138:=Tryz.zeroValue325
 t139:=Tryz.underlying326
 a139:=Tryz.isAgg326
 z139:=Tryz.sizeOf326
 v139:=Tryz.zeroValue326
 g3:=by kernel_rfl
 g4:=by kernel_rfl }
open Go.RowKit in
theorem Tryz.strings_TrimRight_one (s:ByteArray) (c:UInt8) (hc:c.toNat < 128) (w:World) (hs:s.size<=9223372036854775807) :
  Calls Tryz.prog 52 #[.string s,.string ⟨#[c]⟩] w fun e w'=>e=.returned (.string ⟨(Lib.trimRightB s.data.toList c).toArray⟩)/\w'=w:=Any.strings_TrimRight_one Tryz.EE s c hc w hs
def Tryz.qQ:Go.Shelf.Ren:=⟨fun | 288=>136 | 283=>185 | 284=>186 | 285=>187 | 286=>188 | 129=>142 | 317=>219 | 318=>220 | 319=>221 | 320=>222 | 337=>242 | 338=>243 | n=>n,fun | 37=>87 | 53=>22 | 3=>3 | 4=>4 | 9=>9 | 171=>262 | 0=>0 | 173=>264 | 212=>300 | 51=>301 | 5=>5 | 20=>20 | 213=>302 | 46=>249 | 232=>332 | 233=>333 | n=>n,fun | 17=>2 | 18=>6 | 19=>7 | n=>n⟩
theorem Tryz.AB:Go.Proofs.LaysM.n288 Tryz.prog Tryz.qQ:={
 mixed:=by kernel_rfl
 f129:=Tryz.func142.trans (congrArg some (by kernel_rfl))
 f283:=Tryz.func185.trans (congrArg some (by kernel_rfl))
 f284:=Tryz.func186.trans (congrArg some (by kernel_rfl))
 f285:=Tryz.func187.trans (congrArg some (by kernel_rfl))
 f286:=Tryz.func188.trans (congrArg some (by kernel_rfl))
 f288:=Tryz.func136.trans (congrArg some (by kernel_rfl))
 f317:=Tryz.func219.trans (congrArg some (by kernel_rfl))
 f318:=Tryz.func220.trans (congrArg some (by kernel_rfl))
 f319:=Tryz.func221.trans (congrArg some (by kernel_rfl))
 f320:=Tryz.func222.trans (congrArg some (by kernel_rfl))
 f337:=Tryz.func242.trans (congrArg some (by kernel_rfl))
 f338:=Tryz.func243.trans (congrArg some (by kernel_rfl))
 t0:=Tryz.underlying0
 a0:=Tryz.isAgg0
 z0:=Tryz.sizeOf0
 v0:=Tryz.zeroValue0
 t3:=Tryz.underlying3
 a3:=Tryz.isAgg3
 z3:=Tryz.sizeOf3
 v3:=Tryz.zeroValue3
 t4:=Tryz.underlying4
 a4:=Tryz.isAgg4
 z4:=Tryz.sizeOf4
 v4:=Tryz.zeroValue4
 t5:=Tryz.underlying5
 a5:=Tryz.isAgg5
 z5:=Tryz.sizeOf5
 v5:=Tryz.zeroValue5
 t9:=Tryz.underlying9
 a9:=Tryz.isAgg9
 z9:=Tryz.sizeOf9
 v9:=Tryz.zeroValue9
 t20:=Tryz.underlying20
 a20:=Tryz.isAgg20
 z20:=Tryz.sizeOf20
 v20:=Tryz.zeroValue20
 t37:=Tryz.underlying87
 a37:=Tryz.isAgg87
 z37:=Tryz.sizeOf87
 v37:=Tryz.zeroValue87
 t46:=Tryz.underlying249
 a46:=Tryz.isAgg249
 z46:=Tryz.sizeOf249
 v46:=Tryz.zeroValue249
 t51:=Tryz.underlying301
 a51:=Tryz.isAgg301
 z51:=Tryz.sizeOf301
 v51:=Tryz.zeroValue301
 t53:=Tryz.underlying22
 a53:=Tryz.isAgg22
 z53:=Tryz.sizeOf22
 v53:=Tryz.zeroValue22
 t171:=Tryz.underlying262
 a171:=Tryz.isAgg262
 z171:=Tryz.sizeOf262
 v171:=Tryz.zeroValue262
 t173:=Tryz.underlying264
 a173:=Tryz.isAgg264
 z173:=Tryz.sizeOf264
 v173:=Tryz.zeroValue264
 t212:=Tryz.underlying300
 a212:=Tryz.isAgg300
 z212:=Tryz.sizeOf300
 v212:=Tryz.zeroValue300
 t213:=Tryz.underlying302
 a213:=Tryz.isAgg302
 z213:=Tryz.sizeOf302
 t232:=Tryz.underlying332
 a232:=Tryz.isAgg332
 z232:=Tryz.sizeOf332
 v232:=Tryz.zeroValue332
 t233:=Tryz.underlying333
 a233:=Tryz.isAgg333
 z233:=Tryz.sizeOf333
 v233:=Tryz.zeroValue333
 g17:=by kernel_rfl
 g18:=by kernel_rfl
 g19:=by kernel_rfl
 i0:=by kernel_rfl
 i3:=by kernel_rfl
 i4:=by kernel_rfl
 i5:=by kernel_rfl
 i9:=by kernel_rfl
 i20:=by kernel_rfl
 i37:=by kernel_rfl
 i46:=by kernel_rfl
 i51:=by kernel_rfl
 i53:=by kernel_rfl
 i171:=by kernel_rfl
 i173:=by kernel_rfl
 i212:=by kernel_rfl
 i232:=by kernel_rfl
 i233:=by kernel_rfl
 m17:=by kernel_rfl
 m18:=by kernel_rfl
 m19:=by kernel_rfl }
open Go.RowKit Go.Sort Go.Lib in
theorem Tryz.internal_strconv_AppendUint_10_small (B n u:Nat) (hu:u < 100) (c:Value) (xs:List Value) (w:World) (a:w.ownsRow B 5 1 c n xs) (d:B<=w.heap.size) (b:n+20<=140737488355328) :
  Calls Tryz.prog 136 #[c,.int .u64 u,.int .i64 10] w fun e w'=>∃ v',e=.returned v'/\w'.ownsRow B 5 1 v' (n+(Lib.decDigits u).length) (xs ++ Lib.byteCells (Lib.decDigits u))/\Below B w w'/\Lib.OthersKept 5 none w w':=Any.internal_strconv_AppendUint_10_small Tryz.AB B n u hu c xs w a d b
end Go.Proofs
namespace Go.Proofs.YtjejmkcjflhoiaaGreatDoor
open Go.RowKit Lim
section
variable {u:Nat}{e:Ending}
theorem sC{n:Nat}(h:n < 256):(UInt8.ofNat n).toNat=n:=by simp[Nat.mod_eq_of_lt h]
theorem Cx(u:Nat):fQ ((Lib.decDigits u).map fun c=>(c.toNat:Int))/\dvI ((Lib.decDigits u).map fun c=>(c.toNat:Int))=u/\0 < (Lib.decDigits u).length/\(0 < u->nth ((Lib.decDigits u).map fun c=>(c.toNat:Int)) 0≠48):=by
 induction u using Nat.strongRecOn with
 | ind u ih =>
  by_cases h:u < 10
  ·rw[Lib.decDigits,dif_pos h]
   have e:(UInt8.ofNat (48+u)).toNat=48+u:=sC (by omega);simp only[List.map_cons,List.map_nil,e];refine⟨fun c hc=>?_,?_,by simp,fun a=>?_⟩
   ·rw[List.mem_singleton] at hc;omega
   ·simp[dvI];omega
   ·rw[cQ];omega
  ·rw[Lib.decDigits,dif_neg h];obtain⟨i1,i2,i3,i4⟩:=ih (u / 10) (by omega)
   have e:(UInt8.ofNat (48+u % 10)).toNat=48+u % 10:=sC (by omega);simp only[List.map_append,List.map_cons,List.map_nil,e];refine⟨i1.snoc (by omega) (by omega),?_,by simp,fun _=>?_⟩
   ·rw[mw,i2];omega
   ·rw[dh (by simpa using i3)];exact i4 (by omega)
theorem mY(l:List UInt8):Lib.byteCells l=(l.map fun c=>(c.toNat:Int)).map (Value.int .u8):=by
 simp[Lib.byteCells]
theorem zu{a w':World}(g:0 < u)(b:(Lib.decDigits u).length<=20)(h:∃ v',e=.returned v'/\w'.ownsRow a.heap.size 5 1 v' (0+(Lib.decDigits u).length) ([] ++ Lib.byteCells (Lib.decDigits u))/\Below a.heap.size a w'/\Lib.OthersKept 5 none a w') :
  ∃ v d,e=.returned v/\fL w' a.heap.size v d/\fQ d/\dvI d=(u:Int)/\0 < d.length/\d.length<=20/\nth d 0≠48/\Below a.heap.size a w':=by
 obtain⟨v,rfl,c,f,_⟩:=h;obtain⟨d1,d2,d3,d4⟩:=Cx u;refine⟨v,_,rfl,?_,d1,d2,by simpa using d3,by simpa using b,d4 g,f⟩;unfold fL;rw[<- mY,List.length_map];rw[Nat.zero_add,List.nil_append] at c;exact c
theorem dec20(h:u < 18446744073709551616):(Lib.decDigits u).length<=20:=by
 by_cases a:u=0
 ·subst a;rw[Lib.decDigits_one (by decide)];simp
 ·have:=Lib.numDigits_eq u (by omega) h;rw[Lib.decDigits_length];split at this<;>omega
theorem xb(u:Nat)(g:0 < u)(f:u < 100)(c:World):sr (u:Int) c:=by
 unfold sr
 have b:c.ownsRow c.heap.size 5 1 (.slice none 0 0) 0 []:=World.ownsRow_nil _ _ _ _;have t:=Tryz.internal_strconv_AppendUint_10_small c.heap.size 0 u f (.slice none 0 0) [] c b (Nat.le_refl _) (by decide);go_enter Tryz.func84,Tryz.ntmps84;go_wp2_with fail;refine t.mono ?_
 intro e j h;have i:=zu g (dec20 (by omega)) h;obtain⟨v,d,rfl,r⟩:=i;go_wp2;go_ret;exact⟨v,d,rfl,r⟩
end
end Go.Proofs.YtjejmkcjflhoiaaGreatDoor
namespace Go.Proofs.YtjejmkcjflhoiaaGreatDoor
open Go.RowKit Lim
section
variable {k:Nat}{x:Int}
def dx:Nat->Int->List Int
 | 0,_=>[]
 | k+1,x=>dx k (x / 10) ++ [48+x % 10]
theorem dN(k:Nat)(x:Int):(dx k x).length=k:=by
 induction k generalizing x with
 | zero=>rfl
 | succ k ih=>simp[dx,ih]
theorem nB(h:0<=x):fQ (dx k x):=by
 induction k generalizing x with
 | zero=>intro c hc;simp[dx] at hc
 | succ k ih=>exact(ih (by omega)).snoc (by omega) (by omega)
theorem rJ(h:0<=x):dvI (dx k x)=x % 10 ^ k:=by
 induction k generalizing x with
 | zero=>simp[dx,dvI]
 | succ k ih =>
  rw[dx,mw,ih (by omega),Int.pow_succ]
  have d:(0:Int) < 10 ^ k:=Int.pow_pos (by decide);have e1:=Int.mul_ediv_add_emod (x / 10) (10 ^ k);have e2:=Int.mul_ediv_add_emod x 10;have e3:=Int.emod_nonneg (x / 10) (show (10:Int) ^ k≠0 by omega);have e:=Int.emod_lt_of_pos (x / 10) d;generalize x / 10 % 10 ^ k=r at *;generalize hq:x / 10 / 10 ^ k=q at *;generalize (10:Int) ^ k=P at *
  have c:x=(10 * r+x % 10)+(P * 10) * q:=by
   have:10 * (P * q+r)+x % 10=x:=by rw[e1];omega
   rw[<- this];rw[Int.mul_add];have:10 * (P * q)=P * 10 * q:=by rw[<- Int.mul_assoc,Int.mul_comm 10 P]
   omega
  conv=>rhs;rw[c]
  rw[Int.add_mul_emod_self_left,Int.emod_eq_of_lt (a:=10 * r+x % 10) (b:=P * 10) (by omega) (by omega)];omega
theorem nN(k m:Nat)(x:Int)(h:0<=x):dx (k+m) x=dx k (x / 10 ^ m) ++ dx m x:=by
 induction m generalizing x with
 | zero=>simp[dx]
 | succ m ih =>
  rw[Nat.add_succ,dx,ih _ (by omega),dx,List.append_assoc];congr 2
  rw[Int.pow_succ,Int.mul_comm,<- Int.ediv_ediv_of_nonneg (by decide)]
theorem Ab(k:Nat)(x:Int):dx (k+2) x=dx k (x / 100) ++ [48+x % 100 / 10,48+x % 100 % 10]:=by
 rw[dx,dx,List.append_assoc]
 have e1:x / 10 / 10=x / 100:=by omega
 have e2:x / 10 % 10=x % 100 / 10:=by omega
 have e3:x % 10=x % 100 % 10:=by omega
 rw[e1,e2,e3];rfl
end
end Go.Proofs.YtjejmkcjflhoiaaGreatDoor
namespace Go.Proofs.YtjejmkcjflhoiaaGreatDoor
open Go.RowKit Lim
section
variable {l:List Int}
theorem iL(h:fQ l):0<=dvI l/\dvI l < 10 ^ l.length:=by
 induction l with
 | nil=>simp[dvI]
 | cons c l ih =>
  have hc:=h c (by simp);have:=ih fun x hx=>h x (by simp[hx])
  have e:dvI (c :: l)=(c - 48) * 10 ^ l.length+dvI l:=by rw[show c :: l=[c] ++ l from rfl,fX];simp[dvI]
  have a:(0:Int) < 10 ^ l.length:=Int.pow_pos (by decide)
  have b:0<=(c - 48) * 10 ^ l.length:=Int.mul_nonneg (by omega) (Int.le_of_lt a)
  have d:(c - 48) * 10 ^ l.length<=9 * 10 ^ l.length:=Int.mul_le_mul_of_nonneg_right (by omega) (Int.le_of_lt a);rw[e,List.length_cons,Int.pow_succ];omega
theorem dvI_ge(h:fQ l)(b:0 < l.length)(a:nth l 0≠48):10 ^ (l.length - 1)<=dvI l:=by
 cases l with
 | nil=>simp at b
 | cons c l =>
  rw[cQ] at a;have hc:=h c (by simp);have hb:=iL (l:=l) fun x hx=>h x (by simp[hx])
  have e:dvI (c :: l)=(c - 48) * 10 ^ l.length+dvI l:=by rw[show c :: l=[c] ++ l from rfl,fX];simp[dvI]
  have d:(0:Int) < 10 ^ l.length:=Int.pow_pos (by decide);have:1 * 10 ^ l.length<=(c - 48) * 10 ^ l.length:=Int.mul_le_mul_of_nonneg_right (by omega) (Int.le_of_lt d);rw[e,List.length_cons,Nat.add_sub_cancel];omega
theorem qO:∀ {a b:List Int},fQ a->fQ b->a.length=b.length->dvI a=dvI b->a=b
 | [],[],_,_,_,_=>rfl
 | x :: a,y :: b,ha,hb,hl,hv=>by
  have ha':fQ a:=fun z g=>ha z (by simp[g])
  have f:fQ b:=fun z g=>hb z (by simp[g])
  have d:a.length=b.length:=by simpa using hl
  have i:=iL ha';have j:=iL f
  have e1:dvI (x :: a)=(x - 48) * 10 ^ b.length+dvI a:=by rw[show x :: a=[x] ++ a from rfl,fX,d];simp[dvI]
  have e2:dvI (y :: b)=(y - 48) * 10 ^ b.length+dvI b:=by rw[show y :: b=[y] ++ b from rfl,fX];simp[dvI]
  rw[e1,e2] at hv;rw[d] at i
  have h:(0:Int) < 10 ^ b.length:=Int.pow_pos (by decide)
  have e:x=y:=by
   rcases Int.lt_trichotomy x y with c | c | c
   ·have:(x - 48+1) * 10 ^ b.length<=(y - 48) * 10 ^ b.length:=Int.mul_le_mul_of_nonneg_right (by omega) (Int.le_of_lt h);rw[Int.add_mul] at this;omega
   ·exact c
   ·have:(y - 48+1) * 10 ^ b.length<=(x - 48) * 10 ^ b.length:=Int.mul_le_mul_of_nonneg_right (by omega) (Int.le_of_lt h);rw[Int.add_mul] at this;omega
  subst e;rw[qO ha' f d (by omega)]
theorem uC{a b:List Int}(c:fQ a)(hb:fQ b)(f:0 < a.length)(d:0 < b.length)(ka:a.length=1\/nth a 0≠48)(kb:b.length=1\/nth b 0≠48)(hv:dvI a=dvI b):a=b:=by
 apply qO c hb _ hv
 have key:∀ {a b:List Int},fQ a->fQ b->0 < a.length->0 < b.length->(b.length=1\/nth b 0≠48)->dvI a=dvI b->¬ a.length < b.length:=by
  intro a b c hb f d kb hv g;have i:=(iL c).2;rcases kb with e | e
  ·omega
  ·have j:=dvI_ge hb d e;have:=Cp (show a.length<=b.length - 1 by omega);omega
 have k1:=key c hb f d kb hv;have h:=key hb c d f ka hv.symm;omega
theorem DT{S:ByteArray}{n:Int}(h:qZ S n)(l:List UInt8)(hd:(l.map (fun c=>(c.toNat:Int))).all (fun c=>decide (48<=c/\c<=57))=true)(hv:dvI (l.map (fun c=>(c.toNat:Int)))=n)(p:0 < l.length)(m:l.length=1\/nth (l.map (fun c=>(c.toNat:Int))) 0≠48):S=⟨l.toArray⟩:=by
 obtain⟨d,e,g,j,i,f⟩:=h.bytes
 have o:fQ (l.map (fun c=>(c.toNat:Int))):=fun c hc=>by
  rw[List.all_eq_true] at hd;simpa using hd c hc
 have:=uC g o i (by simpa using p) f (by simpa using m) (j.trans hv.symm);rw[<- e] at this
 have k:S.data.toList=l:=List.map_inj_right (fun a b q=>UInt8.toNat_inj.1 (by omega)) |>.1 this
 cases S with
 | mk arr=>simp at k;simp[<- k]
end
end Go.Proofs.YtjejmkcjflhoiaaGreatDoor
namespace Go.Proofs.YtjejmkcjflhoiaaGreatDoor
open Go.RowKit Lim
section
variable {w w':World}{ao:Option Addr}{n c X g:Nat}{x:Int}{l d:List Int}{ops:Array Oper}{K:Act->World->Prop}
theorem nSmall(h:eh w ao n c x)(hn:n<=1099511627776)(hx:x < 18446744073709551616) :
  Calls Tryz.prog 92 #[.slice ao n c] w fun e w'=>e=.returned (.tuple #[.int .u64 x,.bool true])/\Below w.heap.size w w':=by
 obtain⟨b,o,l,g,q,f,i⟩:=h.ex
 have d:aI l=n:=f.2.1.trans g
 have m:n<=1:=by
  rcases Nat.lt_or_ge 1 n with e | e
  ·have p:=eF f.1 (by omega);have r:=iw (show 1<=aI l - 1 by omega);rw[f.2.2] at p
   have h7:(18446744073709551616:Int) ^ 1=18446744073709551616:=by decide
   omega
  ·exact e
 have t:=bH ao n c l w g q (by omega) i.cells;rw[d] at t;have hv:=f.2.2;rcases(show n=0\/n=1 by omega) with e | e
 ·subst e;obtain rfl:l=[]:=List.eq_nil_of_length_eq_zero g
  have j:x=0:=by rw[<- hv];rfl
  subst j;clear hv d;go_enter Tryz.func92,Tryz.ntmps92;go_wp2_with fail;refine t.mono ?_
  rintro e w' ⟨rfl,rfl⟩;go_wp2;go_ret2;exact⟨rfl,Below.refl _ _⟩
 ·subst e;obtain⟨y,rfl⟩:∃ y,l=[y]:=by
   match l,g with
   | [y],_=>exact⟨y,rfl⟩
  have hy:y=x:=by rw[<- hv];simp[val]
  subst hy;have hc:=i.cell 0 (by simp);obtain rfl:ao=some ⟨b,o,none⟩:=by
   rcases i.loc with e | e
   ·simp at e
   ·exact e
  rw[cQ,Nat.add_zero] at hc;clear hv d i f;go_enter Tryz.func92,Tryz.ntmps92;go_wp2_with fail;refine t.mono ?_
  rintro e w' ⟨rfl,rfl⟩;go_wp2;go_ret2;exact⟨rfl,Below.refl _ _⟩
theorem D8(i:Nat)(h:i < 100):∀ j v,[Value.int .u8 (48+(i:Int) / 10),Value.int .u8 (48+(i:Int) % 10)][j]?=some v->∀ (w:World) (gp:Nat),dE w gp 164 (cY 100)->w.cell? ((⟨gp,i * 2,none⟩:Addr).add j)=some v:=by
 intro j v a w gp R;have c:=cj 100;obtain⟨b,p1⟩:=xu h
 match j,a with
 | 0,a =>
  simp at a;subst a;have:=R.cell (i:=2 * i) (by omega);rw[b] at this;rw[<- this];exact congrArg w.cell? (by simp[Addr.add,Nat.mul_comm])
 | 1,a =>
  simp at a;subst a;have:=R.cell (i:=2 * i+1) (by omega);rw[p1] at this;rw[<- this];exact congrArg w.cell? (by simp[Addr.add,Nat.mul_comm])
 | j+2,a=>simp at a
theorem Dq(g E:Nat)(h:E<=34)(W:World):(Instr.sliceAt 162 (.pointer (some ⟨g,0,none⟩)) (some (.int .i64 (E:Int))) none none).run Tryz.prog W=.ok (.slice (some ⟨g,E,none⟩) (36 - E) (36 - E)) W:=by
 have a:Tryz.prog.arrayLen 162=36:=by kernel_rfl
 have b:Tryz.prog.elem 162=5:=by kernel_rfl
 have hu:Tryz.prog.underlying 162=some (.array (Tryz.prog.arrayLen 162) (Tryz.prog.elem 162)):=by kernel_rfl
 have hs:(sizeOf 5).run Tryz.prog W=.ok 1 W:=by kernel_rfl
 rw[run_sliceAt_array_l W 162 ⟨g,0,none⟩ hu .i64 (E:Int) (by omega) (by rw[a];omega),b,hs,a];simp only[Result.andThen,slicedAt,Int.toNat_natCast,Nat.mul_one];rw[if_neg (by omega)];congr 3
 unfold Addr.add;split<;>simp_all
theorem slice2(g o:Nat)(W:World):(Instr.sliceAt 163 (.pointer (some ⟨g,o,none⟩)) none none none).run Tryz.prog W=.ok (.slice (some ⟨g,o,none⟩) 2 2) W:=by
 have b:Tryz.prog.arrayLen 163=2:=by kernel_rfl
 have a:Tryz.prog.elem 163=5:=by kernel_rfl
 have hu:Tryz.prog.underlying 163=some (.array (Tryz.prog.arrayLen 163) (Tryz.prog.elem 163)):=by kernel_rfl
 have hs:(sizeOf 5).run Tryz.prog W=.ok 1 W:=by kernel_rfl
 rw[run_sliceAt_array_all W 163 ⟨g,o,none⟩ hu,a,hs,b];simp[Result.andThen,slicedAt,Addr.add]
theorem CN:(Tryz.prog.info? 5).map (·.size)=some 1:=by kernel_rfl
theorem uo{en k:Nat}(a:l.length=36)(he:en<=36)(b:2 * k+2<=en) :
  splice ((l.take (en - 2 * k) ++ dx (2 * k) X ++ l.drop en).map (Value.int .u8)) (en - 2 * k - 2) [Value.int .u8 (48+(((X / 100 ^ k % 100:Nat):Nat):Int) / 10),Value.int .u8 (48+(((X / 100 ^ k % 100:Nat):Nat):Int) % 10)]
   = (l.take (en - 2 * (k+1)) ++ dx (2 * (k+1)) X ++ l.drop en).map (Value.int .u8):=by
 have hX:(0:Int)<=(X:Int):=by omega
 have e1:dx (2 * (k+1)) (X:Int)=[48+(((X / 100 ^ k % 100:Nat):Nat):Int) / 10,48+(((X / 100 ^ k % 100:Nat):Nat):Int) % 10] ++ dx (2 * k) X:=by
  rw[show 2 * (k+1)=2+2 * k by omega,nN 2 (2 * k) _ hX];congr 1
  rw[show (2:Nat)=0+2 from rfl,Ab]
  have e2:(X:Int) / 10 ^ (2 * k)=((X / 100 ^ k:Nat):Int):=by
   rw[Int.natCast_ediv];congr 1
   rw[Int.pow_mul];simp
  rw[e2];simp[dx]
 rw[e1]
 have hA:(l.take (en - 2 * k)).length=en - 2 * k:=by simp;omega
 unfold splice;simp only[List.map_append,List.append_assoc,List.map_cons,List.length_cons,List.length_nil,List.cons_append,List.nil_append];rw[List.take_append_of_le_length (by simp;omega),List.drop_append,List.drop_of_length_le (by simp;omega)];rw[<- List.map_take,List.take_take,Nat.min_eq_left (by omega),show en - 2 * k - 2=en - 2 * (k+1) by omega];rw[List.length_map,hA,show en - 2 * (k+1)+(0+1+1) - (en - 2 * k)=0 by omega];simp
theorem oq{P:Program}{o:Oper}{a:Act}{Q:Exit->Act->World->Prop}{E:Prop}(k:o.guard=none)(d s:Operand)(i n:TypeId)(q:o.op=.call { callee:=.builtin .copy,args:=#[d,s],argTypes:=#[i,n] })(elem:TypeId)(hu:P.underlying i=some (.slice elem))(m:(P.info? elem).map (·.size)=some 1)(g off dLen dCap:Nat)(ad:Addr)(sLen sCap:Nat)(hd:a.eval d=.slice (some ⟨g,off,none⟩) dLen dCap)(hs:a.eval s=.slice (some ad) sLen sCap)(cur:List Value)(t:TypeId)(p:w.heap[g]?=some (.cells cur.toArray t (0,0)))(cs:List Value)(hn:cs.length=Nat.min sLen dLen)(c:∀ j v,cs[j]?=some v->w.cell? (ad.add j)=some v)(f:off+cs.length<=cur.length)(l:∀ v∈cs,v.oneCell'=true)(h:∀ w',Hid (w'.heap[g]?=some (.cells (splice cur off cs).toArray t (0,0)))->Hid (∀ b,b≠g->w'.heap[b]?=w.heap[b]?)->Hid (∀ B w0,B<=g->Below B w0 w->Below B w0 w')->K (a.put o.dst (goInt cs.length)) w') :
  if Region.wanted o (yielded ops a.tmps)=true then Oper.wp P o a w K Q else E:=by
 have hw:Region.wanted o (yielded ops a.tmps)=true:=by simp[Region.wanted,k]
 rw[if_pos hw];have e:=run_copy_row (P:=P) w i n o.type elem g off dLen dCap ad sLen sCap cur.toArray t cs hu m p hn c (by simpa using f) l;unfold Oper.wp;simp[execOp,q,resolve,invoke,builtin,hd,hs,e,Result.andThen];exact h _ (show _=_ by simpa[splice] using setRow_heap w g _ _ t _ p) (fun b hb=>setRow_other w g b _ hb) (fun B w0 l r=>below_setRow r l _)
theorem yO{gt g:Nat}(en:Nat)(h:eh w ao n c (X:Int))(hn:n<=1099511627776)(hx:X < 1000000000000000000)(T:dE w gt 162 l)(hl:l.length=36)(Z:18<=en)(s:en<=36)(m:dE w g 164 (cY 100))(A:gt≠g) :
  Calls Tryz.prog 91 #[.int .i64 en,.slice ao n c,.pointer (some ⟨gt,0,none⟩),.pointer (some ⟨g,0,none⟩)] w fun e w'=>e=.returned (.tuple #[])/\dE w' gt 162 (l.take (en - 18) ++ dx 18 X ++ l.drop en)/\(∀ B w0,B<=gt->Below B w0 w->Below B w0 w')/\(∀ b,b < w.heap.size->b≠gt->w'.heap[b]?=w.heap[b]?):=by
 go_enter Tryz.func91,Tryz.ntmps91;go_wp2_with fail;refine(nSmall h hn (by omega)).mono ?_
 rintro e O ⟨rfl,x⟩;have W:=T.lt;have T:=T.keep x;have m:=m.keep x
 have f:Hid (∀ b,b < w.heap.size->b≠gt->O.heap[b]?=w.heap[b]?):=fun b hb _=>x.block b hb
 have d:Hid (∀ B w0,B<=gt->Below B w0 w->Below B w0 O):=fun B w0 p o=>o.trans (x.mono (by omega))
 clear h x;go_wp2;go_loopw [0,6,13] (fun te tx tk wr=>∃ k:Nat,k<=9/\tk=.int .i64 k/\te=.int .i64 ((en - 2 * k:Nat):Int)/\tx=.int .u64 ((X / 100 ^ k:Nat):Int)/\dE wr gt 162 (l.take (en - 2 * k) ++ dx (2 * k) X ++ l.drop en)/\dE wr g 164 (cY 100)/\(∀ B w0,B<=gt->Below B w0 w->Below B w0 wr)/\(∀ b,b < w.heap.size->b≠gt->wr.heap[b]?=w.heap[b]?)) (fun _ _ tk _=>9 - (intOf tk).toNat)
 case atStart=>exact⟨0,by omega,rfl,rfl,by simp,by simpa[dx] using T,m,d.out,f.out⟩
 case round =>
  clear T m f d;obtain⟨k,hk,rfl,rfl,rfl,T,m,d,f⟩:=hrel;by_cases K:k < 9
  ·have hs:=uo (X:=X) hl s (show 2 * k+2<=en by omega);have S:=(show Hid _ from hs)
   have hlen:(l.take (en - 2 * k) ++ dx (2 * k) X ++ l.drop en).length=36:=by simp[dN];omega
   have d:=(show Hid _ from d)
   have f:=(show Hid _ from f)
   have hdiv:X / 100 ^ k / 100=X / 100 ^ (k+1):=by rw[Nat.div_div_eq_div_mul,Nat.pow_succ]
   have R:=(show Hid _ from hdiv)
   have G:X / 100 ^ k < 1000000000000000000:=Nat.lt_of_le_of_lt (Nat.div_le_self _ _) hx;clear hs hdiv;generalize X / 100 ^ k=Y at *
   have hi:Y % 100 < 100:=Nat.mod_lt _ (by decide)
   have U:(Y:Int).tmod 100=((Y % 100:Nat):Int):=by rw[Int.tmod_eq_emod_of_nonneg (by omega)];omega
   generalize Y % 100=i at *
   have aa:(i:Int) < 100:=by omega
   have r:=fun j v (F:[Value.int .u8 (48+(i:Int) / 10),Value.int .u8 (48+(i:Int) % 10)][j]?=some v)=>D8 i hi j v F
   have C:=(show Hid _ from r)
   clear r;obtain⟨E,D⟩:∃ E,en - 2 * k=E+2:=⟨en - 2 * k - 2,by omega⟩
   have Q:E+2<=36:=by omega
   have P:=(show Hid _ from D)
   rw[D];clear D;have N:=Dq gt E (by omega);have V:=slice2 g (i * 2);go_wp2_with fail;go_region_law (refine oq rfl (.tmp 18) (.tmp 22) 87 87 rfl 5 cN CN gt E (36 - E) (36 - E) ⟨g,i * 2,none⟩ 2 2 (by rfl) (by rfl) _ 162 T.drew.blk [Value.int .u8 (48+(i:Int) / 10),Value.int .u8 (48+(i:Int) % 10)] (by show 2=Nat.min 2 (36 - E);exact(Nat.min_eq_left (by omega)).symm) (fun j v F=>C.out j v F _ g m.drew) (by rw[List.length_map,hlen];show E+2<=36;omega) (by simp[Value.oneCell']) ?_;intro L u y z)
   have J:dE L gt 162 (l.take (en - 2 * (k + 1)) ++ dx (2 * (k + 1)) X ++ l.drop en):=⟨by
    rw[<- S.out,show en - 2 * k - 2=E by have:=P.out;omega];exact u.out⟩
   have q:dE L g 164 (cY 100):=⟨by rw[y.out g (fun e=>A e.symm)];exact m.blk⟩
   have H:=(show Hid _ from J)
   have t:=(show Hid _ from q)
   have ab:(Y:Int).tdiv 100=((Y / 100:Nat):Int):=by rw[Int.tdiv_eq_ediv_of_nonneg (by omega)];omega
   have M:Y / 100 < 1000000000000000000:=Nat.lt_of_le_of_lt (Nat.div_le_self _ _) G;generalize hY2:Y / 100=Y2 at *;have ac:=(show Hid _ from hY2)
   clear hY2 J q T m u;go_wp2;go_roundw
   case rel=>exact⟨k+1,by omega,by go_num,by rw[show en - 2 * (k+1)=E by have:=P.out;omega],by rw[<- R.out],H.out,t.out,fun B w0 p o=>z.out B w0 p (d.out B w0 p o).drew,fun b p o=>(y.out b o).trans (f.out b p o)⟩
   case measure=>simp[intOf];omega
  ·have I:k=9:=by omega
   subst I;have d:=(show Hid _ from d)
   have f:=(show Hid _ from f)
   go_wp2;go_end0;exact⟨rfl,T,d.out,f.out⟩
theorem eh.over{t:TypeId}(h:eh w ao n c x)(T:dE w g t l)(k:∀ b,b < w.heap.size->b≠g->w'.heap[b]?=w.heap[b]?):eh w' ao n c x:=by
 obtain⟨b,o,m,j,p,q,f⟩:=h.ex;refine⟨b,o,m,j,p,q,f.loc,fun i hi=>?_⟩;have hc:=f.cell i hi;have hb:=aK hc
 have d:b≠g:=by
  intro e;subst e;have a:=T.blk;simp only[World.cell?,a] at hc;simp at hc
 rw[World.cell?_of_block (w:=w) (k b hb d)];exact hc
theorem dE.over{g':Nat}{t:TypeId}(h:dE w g' t l)(hne:g'≠g)(HK:∀ b,b < w.heap.size->b≠g->w'.heap[b]?=w.heap[b]?):dE w' g' t l:=⟨by rw[HK g' h.lt hne];exact h.blk⟩
theorem uy(g:Nat)(W:World):(Instr.sliceAt 162 (.pointer (some ⟨g,0,none⟩)) none none none).run Tryz.prog W=.ok (.slice (some ⟨g,0,none⟩) 36 36) W:=by
 have b:Tryz.prog.arrayLen 162=36:=by kernel_rfl
 have a:Tryz.prog.elem 162=5:=by kernel_rfl
 have hu:Tryz.prog.underlying 162=some (.array (Tryz.prog.arrayLen 162) (Tryz.prog.elem 162)):=by kernel_rfl
 have hs:(sizeOf 5).run Tryz.prog W=.ok 1 W:=by kernel_rfl
 rw[run_sliceAt_array_all W 162 ⟨g,0,none⟩ hu,a,hs,b];simp[Result.andThen,slicedAt,Addr.add]
theorem sy{t:TypeId}(R:dE w g t d)(i:d.length=36)(h:fQ d):∃ S:ByteArray,(convert 87 9 (.slice (some ⟨g,0,none⟩) 36 36)).run Tryz.prog w=Result.ok (.string S) w/\S.data.toList.map (fun c=>(c.toNat:Int))=d:=by
 have a:=run_loadCells_list (P:=Tryz.prog) w ⟨g,0,none⟩ (d.map (Value.int .u8)) (fun j u hu=>by
  rw[List.getElem?_map] at hu
  have b:j < d.length:=by
   rcases Nat.lt_or_ge j d.length with b | b
   ·exact b
   ·rw[List.getElem?_eq_none b] at hu;simp at hu
  rw[List.getElem?_eq_getElem b] at hu;simp at hu;subst hu;have:=R.cell b;rw[b8 b] at this;rw[<- this];by_cases f:j=0
  ·subst f;exact congrArg w.cell? (by simp[Addr.add])
  ·exact congrArg w.cell? (by simp[Addr.add,f]))
 rw[List.length_map,i] at a;have e:=(run_convert_bytes_string (P:=Tryz.prog) w 87 9 5 (some ⟨g,0,none⟩) 36 36 cN rj jB).trans (run_bytesToString w ⟨g,0,none⟩ 36 36 d a);refine⟨_,e,?_⟩;rw[pE d ByteArray.empty];simp only[show ByteArray.empty.data.toList=[] from rfl,List.nil_append,List.map_map]
 conv=>rhs;rw[<- List.map_id d]
 apply List.map_congr_left;intro c hc;have:=h c hc;simp[Function.comp,UInt8.toNat_ofNat'];omega
theorem DX(h:aY w ao n c x)(hn:n≤274877906944)(hx:x < U36) :
    Calls Tryz.prog 53 #[.agg #[.slice ao n c]] w fun e w'=>∃ S:ByteArray,e=.returned (.string S)∧S.data.toList.map (fun c=>(c.toNat:Int))=dx 36 x∧Below w.heap.size w w':=by
  have j:=qy w (.cells #[.slice ao n c] 32) (.cells ((List.replicate 36 (0:Int)).map (Value.int .u8)).toArray 162);have f:=mn (w.alloc (.cells #[.slice ao n c] 32)) 162 (List.replicate 36 0);rw[show (w.alloc (.cells #[.slice ao n c] 32)).heap.size=w.heap.size+1 by simp] at f;have i:=(ff w (.slice ao n c) 32).alloc (.cells ((List.replicate 36 (0:Int)).map (Value.int .u8)).toArray 162);have h:=h.keep j;go_enter Tryz.func53,Tryz.ntmps53;go_wp2_with fail;change Calls _ _ _ ((w.alloc (.cells #[.slice ao n c] 32)).alloc (.cells ((List.replicate 36 (0:Int)).map (Value.int .u8)).toArray 162)) _
  refine dPairs.mono ?_
  rintro e d ⟨rfl,b⟩;have f:=f.keep b;have i:=i.keep b;have h:=h.keep b;have j:=aA j b;have W:=f.lt;clear b
  have m:(d.alloc (.cells Tryz.zeroCells164 164)).heap[d.heap.size]?=some (.cells Tryz.zeroCells164 164 (0,0)):=heap_alloc_new d _
  have y:Tryz.zeroCells164.size=200:=by kernel_rfl
  have B:((cY 100).map (Value.int .u8)).toArray.size=200:=by simp[cj]
  have N:=ae d (.cells Tryz.zeroCells164 164)
  have p:dE ((d.alloc (.cells Tryz.zeroCells164 164)).setRow d.heap.size ((cY 100).map (Value.int .u8)).toArray) d.heap.size 164 (cY 100):=⟨setRow_heap _ _ _ _ _ _ m⟩
  have s:Below d.heap.size d ((d.alloc (.cells Tryz.zeroCells164 164)).setRow d.heap.size ((cY 100).map (Value.int .u8)).toArray):=below_setRow N (Nat.le_refl _) _;have f:=f.keep s;have i:=i.keep s;have h:=h.keep s;have j:=aA j s;have HN:=(show Hid _ from m);have U:=(show Hid _ from y);have v:=(show Hid _ from B);have Z:=(show Hid _ from s.size);clear m y B N s;generalize hW2:(d.alloc (.cells Tryz.zeroCells164 164)).setRow d.heap.size ((cY 100).map (Value.int .u8)).toArray=w2 at *;have L:=(show Hid _ from hW2);clear hW2;go_wp2_with (refine wpList_store_row rfl 164 (.tmp 4) (.tmp 9) rfl d.heap.size _ rfl rfl 164 _ HN.out (by rw[v.out];kernel_rfl) (by rw[v.out,U.out]) (by simp[Value.oneCell']) ?_;rw[L.out]);obtain⟨X,hX⟩:∃ X:Nat,x=(X:Int):=⟨x.toNat,by have:=h.vx;omega⟩;subst hX
  have M : X < 1000000000000000000000000000000000000 := by have : U36 = 1000000000000000000000000000000000000 := by decide
                                                           omega
  have D:=(show Hid _ from nN 18 18 (X:Int) (by omega));have q0:=i.cell;go_region_held3 (fun w'=>w'.cell? ⟨w.heap.size,0,none⟩=some (.slice ao n c)) (first | exact(by assumption) | go_keep)
    (first
    | (go_at_call 93;refine(BU 18 (by decide)).mono ?_;rintro e w3 ⟨a3,k3,d3,rfl,R,hk3,b⟩;have f:=f.drew.keep b;have p:=p.drew.keep b;have i:=i.drew.keep b;have q0:=i.cell;have h:=h.drew.keep b;have j:=aA j.drew b;clear b)
    | (go_at_call 58;refine(nDiv h R.a (by omega) (by omega) (by decide)).mono ?_;rintro e w4 ⟨a4,k4,d4,a5,k5,d5,rfl,q,g,hk4,T,b⟩;have f:=f.keep b;have p:=p.keep b;have i:=i.keep b;have q0:=i.cell;have j:=aA j b;clear b h R))
  all_goals (
    have q:=q.eqv (show (X:Int) / 10 ^ 18=((X / 1000000000000000000:Nat):Int) from by omega);have g:=g.eqv (show (X:Int) % 10 ^ 18=((X % 1000000000000000000:Nat):Int) from by omega)
    have G:X / 1000000000000000000 < 1000000000000000000:=by omega
    have E:X % 1000000000000000000 < 1000000000000000000:=by omega
    have I:Hid ((X:Int) / 10 ^ 18=((X / 1000000000000000000:Nat):Int)):=by show _=_;omega
    have H:Hid (dx 18 (X:Int)=dx 18 ((X % 1000000000000000000:Nat):Int)):=by
      show _=_
      apply qO (nB (by omega)) (nB (by omega)) (by simp[dN]);rw[rJ (by omega),rJ (by omega)];omega
    generalize X / 1000000000000000000=C at *;generalize X % 1000000000000000000=X2 at *
    have o:w.heap.size+1≠d.heap.size:=by omega
    have t:=yO 18 q (by omega) G f (by simp) (by decide) (by decide) p o;go_wp2_with fail;refine t.mono ?_
    rintro e w5 ⟨rfl,O,u,r⟩;have g:=g.over f r;have p:=p.over (fun e=>o e.symm) r;have P:=u w.heap.size w (by omega) j;clear t f i q0 u r q j;have A:=yO 36 g (by omega) E O (by simp[dN]) (by decide) (by decide) p o;go_wp2_with fail;refine A.mono ?_
    rintro e w6 ⟨rfl,J,z,K⟩;have Y:=z w.heap.size w (by omega) P
    clear A g p z K O P)
  all_goals (
    have hL:(List.take (36 - 18) (List.take (18 - 18) (List.replicate 36 (0:Int)) ++ dx 18 (C:Int) ++ List.drop 18 (List.replicate 36 0)) ++ dx 18 (X2:Int) ++ List.drop 36 (List.take (18 - 18) (List.replicate 36 (0:Int)) ++ dx 18 (C:Int) ++ List.drop 18 (List.replicate 36 0)))=dx 36 (X:Int):=by
      rw[D.out,I.out,H.out]
      have l1:(dx 18 (C:Int)).length=18:=dN _ _;rw[List.take_append_of_le_length (by simp[l1]),List.drop_of_length_le (l:=List.take (18 - 18) (List.replicate 36 (0:Int)) ++ dx 18 (C:Int) ++ List.drop 18 (List.replicate 36 0)) (by simp[l1])];rw[show List.take (18 - 18) (List.replicate 36 (0:Int))=[] from rfl,List.nil_append,List.take_of_length_le (by omega),List.append_nil]
    rw[hL] at J;obtain⟨S,V,F⟩:= sy J (dN 36 _) (nB (by omega));have Q:=uy (w.heap.size+1) w6;clear hL J;go_wp2;go_ret
    exact⟨S,rfl,F,Y⟩)
end
end Go.Proofs.YtjejmkcjflhoiaaGreatDoor
namespace Go.Proofs.YtjejmkcjflhoiaaGreatDoor
open Go.RowKit Lim
end Go.Proofs.YtjejmkcjflhoiaaGreatDoor
namespace Go.Proofs.YtjejmkcjflhoiaaGreatDoor
open Go.RowKit Lim
end Go.Proofs.YtjejmkcjflhoiaaGreatDoor
namespace Go.Proofs.YtjejmkcjflhoiaaGreatDoor
open Go.RowKit Lim
end Go.Proofs.YtjejmkcjflhoiaaGreatDoor
namespace Go.Proofs.YtjejmkcjflhoiaaGreatDoor
open Go.RowKit Lim
section
variable {w:World}{x:Int}{ao:Option Addr}{n c:Nat}
def uH(r:Int):List UInt8:=(dx 36 r).map fun c=>UInt8.ofNat c.toNat
def vR(r:Int):List UInt8:=if r=0 then [] else 46 :: Lib.trimRightB (uH r) 48
structure Ah(S:ByteArray)(x:Int):Prop where
 ex:∃ Sw:ByteArray,qZ Sw (x / U36)/\S.data.toList=Sw.data.toList ++ vR (x % U36)
theorem CP{S:ByteArray}{r:Int}(h:S.data.toList.map (fun c=>(c.toNat:Int))=dx 36 r):S.data.toList=uH r:=by
 unfold uH;rw[<- h,List.map_map]
 conv=>lhs;rw[<- List.map_id S.data.toList]
 apply List.map_congr_left;intro c _;simp[Function.comp]
def kY(w:World)(x:Int):Prop:=∀ g,fR g->eC g=x->g≠[]->0 < nth g (g.length - 1)->∀ wx,Below w.heap.size w wx->sr (nth g (g.length - 1)) wx
theorem kY.keep{w':World}(h:kY w x)(hb:Below w.heap.size w w'):kY w' x:=fun g h1 h2 h3 h4 wx hx=>h g h1 h2 h3 h4 wx (aA hb hx)
theorem yD(l:List UInt8)(c:UInt8):(Lib.trimRightB l c).length<=l.length:=by
 unfold Lib.trimRightB;rw[List.length_reverse];have:=(List.dropWhile_sublist (fun x=>x == c) (l:=l.reverse)).length_le;rwa [List.length_reverse] at this
theorem si(r:Int):(uH r).length=36:=by unfold uH;rw[List.length_map,dN]
theorem nText(h:aY w ao n c x)(hn:n<=4294967296)(hA:kY w x) :
  Calls Tryz.prog 51 #[.slice ao n c] w fun e w'=>∃ s,e=.returned (.string s)/\qZ s x/\s.size<=40 * n+40/\Below w.heap.size w w':=by
 obtain⟨b,o,l,a,d,g,f,rfl⟩:=h.ex;exact Bj ao n c b o l w a d hn g f hA
theorem BP(h:aY w ao n c x)(hn:n<=4294967000)(hA:kY w (x / U36)) :
  Calls Tryz.prog 21 #[.agg #[.slice ao n c]] w fun e w'=>∃ S:ByteArray,e=.returned (.string S)/\Ah S x/\S.size<=40 * n+100/\Below w.heap.size w w':=by
 have f:=ae w (.cells #[.slice ao n c] 32);have A:=ff w (.slice ao n c) 32;have h:=h.keep f;have hA:=hA.keep f;have q0:=A.cell;go_enter Tryz.func21,Tryz.ntmps21;have G:=h.vx;have t:=Dn
 have I:0<=x % U36:=Int.emod_nonneg _ (by omega)
 have v:x % U36 < U36:=Int.emod_lt_of_pos _ t;go_wp2_with fail;refine(dTrunc h (by omega)).mono ?_
 rintro e u ⟨a1,k1,d1,a2,z,d2,rfl,g,d,H,E,b⟩;have f:=aA f b;have hA:=hA.keep b;clear b h A q0;have p:=ae u (.cells #[.slice a2 z d2] 32);have l:=ff u (.slice a2 z d2) 32;have g:=g.keep p;have d:=d.keep p;have hA:=hA.keep p;have f:=aA f p;have y:=nText g.a (by omega) hA;clear p hA;go_wp2_with fail;refine y.mono ?_
 rintro e O ⟨q,rfl,m,J,b⟩;have d:=d.keep b;have l:=l.keep b;have f:=aA f b;have L:=l.cell;clear b y g;have o:=E3 d.a (by omega);generalize u.heap.size=P at *;by_cases j:x % U36=0
 ·rw[decide_eq_true j] at o;have r:=(show Hid _ from j)
  clear j;go_wp2_with fail;refine o.mono ?_
  rintro e K ⟨rfl,b⟩;go_wp2;go_ret;exact⟨q,rfl,⟨q,m,by rw[r.out];simp[vR]⟩,by omega,aA f b⟩
 ·rw[decide_eq_false j] at o;have r:=(show Hid _ from j)
  clear j;go_wp2_with fail;refine o.mono ?_
  rintro e K ⟨rfl,b⟩;have d:=d.keep b;have l:=l.keep b;have f:=aA f b;have L:=l.cell;clear b o;go_wp2_with fail;refine(DX d.a (by omega) v).mono ?_
  rintro e D ⟨S,rfl,hS,b⟩;have i:=CP hS
  have M:S.size=36:=by
   have:(S.data.toList.map (fun c=>(c.toNat:Int))).length=36:=by rw[hS,dN]
   simpa using this
  have f:=aA f b;clear b hS;have s:=Tryz.strings_TrimRight_one S 48 (by decide) D (by omega);rw[i] at s;generalize hR:(⟨(Lib.trimRightB (uH (x % U36)) 48).toArray⟩:ByteArray)=R at s
  have F:R.size<=36:=by
   have B:=yD (uH (x % U36)) 48;rw[si] at B;rw[<- hR];simpa[ByteArray.size] using B
  have C:=(show Hid _ from hR)
  clear i hR;go_wp2_with fail;refine s.mono ?_
  rintro e N ⟨rfl,rfl⟩;go_wp2_with fail;go_ret;refine⟨_,rfl,⟨q,m,?_⟩,?_,f⟩
  ·rw[vR,if_neg r.out,<- C.out];simp
  ·show (q ++ (⟨#[46]⟩:ByteArray) ++ R).size<=_
   rw[ByteArray.size_append,ByteArray.size_append];have:(⟨#[46]⟩:ByteArray).size=1:=rfl;omega
end
end Go.Proofs.YtjejmkcjflhoiaaGreatDoor
