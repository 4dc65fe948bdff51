import Derived.Test.YtjejmkcjflhoiaaGreatDoorJab
import Derived.Test.YtjejmkcjflhoiaaGreatDoorJam
import Derived.Lib.AppendStr
import Derived.Shelf.Strings.Trim
import Derived.Shelf.LaysM
import Derived.Shelf.Strings.Search1
import Derived.Shelf.Strconv.AppendUint10
import Derived.Test.YtjejmkcjflhoiaaGreatDoorProg
set_option maxRecDepth 100000
set_option maxHeartbeats 8000000
namespace Go.Proofs.YtjejmkcjflhoiaaGreatDoor
open Go.RowKit Lim
section
variable {w:World}{g i:Nat}{l:List Int}
structure dL(w:World)(g:Nat)(t:TypeId)(l:List Int):Prop where
 blk:w.heap[g]?=some (.cells (l.map (Value.int .u8)).toArray t (0,0))
theorem dL.lt{t:TypeId}(h:dL w g t l):g < w.heap.size:=lt_of_block h.blk
theorem dL.keep{w':World}{t:TypeId}(h:dL w g t l)(hb:Below w.heap.size w w'):dL w' g t l:=⟨by rw[hb.block g h.lt];exact h.blk⟩
theorem dL.cell{t:TypeId}(h:dL w g t l)(hi:i < l.length):w.cell? ⟨g,i,none⟩=some (.int .u8 (nth l i)):=by
 simp[World.cell?,h.blk,hi,cn hi]
theorem dL.free{t:TypeId}(h:dL w g t l)(i:Nat):w.frozen? ⟨g,i,none⟩=false:=by simp[World.frozen?,h.blk]
theorem dL.set{t:TypeId}(h:dL w g t l)(i:Nat)(x:Int):dL (w.setCell ⟨g,i,none⟩ (.int .u8 x)) g t (l.set i x):=⟨by
 have hb:=h.blk;simp only[World.setCell,Array.getElem?_modify,if_true,hb]
 simp⟩
theorem dL.other{g':Nat}{t:TypeId}(h:dL w g t l)(hne:g≠g')(u:Value):dL (w.setCell ⟨g',i,none⟩ u) g t l:=⟨by rw[Below.heap_setCell w _ u g hne];exact h.blk⟩
theorem dL.drew{t:TypeId}(h:dL w g t l):dL w.drew g t l:=⟨h.blk⟩
theorem mV(w:World)(t:TypeId)(l:List Int):dL (w.alloc (.cells (l.map (Value.int .u8)).toArray t)) w.heap.size t l:=⟨by
 show (w.heap.push _)[w.heap.size]?=_
 rw[Array.getElem?_push_size]⟩
def dh:Nat->List Int
 | 0=>[]
 | k+1=>dh k ++ [48+(k:Int) / 10,48+(k:Int) % 10]
theorem cA(k:Nat):(dh k).length=2 * k:=by
 induction k with
 | zero=>rfl
 | succ k ih=>simp[dh,ih];omega
theorem xZ{k:Nat}(h:i < k):nth (dh k) (2 * i)=48+(i:Int) / 10/\nth (dh k) (2 * i+1)=48+(i:Int) % 10:=by
 induction k with
 | zero=>omega
 | succ k ih =>
  have a:=cA k;by_cases e:i=k
  ·subst e;rw[dh,bR (by omega),bR (by omega),a,Nat.sub_self,show 2 * i+1 - 2 * i=1 by omega];exact⟨rfl,rfl⟩
  ·rw[dh,dq (by omega),dq (by omega)];exact ih (by omega)
theorem dPairs:Calls Tryz.prog 90 #[] w fun e w'=>e=.returned (.agg ((dh 100).map (Value.int .u8)).toArray)/\Below w.heap.size w w':=by
 go_enter Tryz.func90,Tryz.ntmps90;go_wp2
 have o:Tryz.zeroCells164=((List.replicate 200 (0:Int)).map (Value.int .u8)).toArray:=by kernel_rfl
 rw[o];have b:=mV (w.alloc (.cells ((List.replicate 200 (0:Int)).map (Value.int .u8)).toArray 164)) 164 (List.replicate 200 0);rw[show (w.alloc (.cells ((List.replicate 200 (0:Int)).map (Value.int .u8)).toArray 164)).heap.size=w.heap.size+1 by simp] at b;have d:=(mV w 164 (List.replicate 200 0)).keep (ae _ (.cells ((List.replicate 200 (0:Int)).map (Value.int .u8)).toArray 164));have f:=nU w (.cells ((List.replicate 200 (0:Int)).map (Value.int .u8)).toArray 164) (.cells ((List.replicate 200 (0:Int)).map (Value.int .u8)).toArray 164);clear o;generalize (w.alloc (.cells ((List.replicate 200 (0:Int)).map (Value.int .u8)).toArray 164)).alloc (.cells ((List.replicate 200 (0:Int)).map (Value.int .u8)).toArray 164)=v at *;go_loopw [3] (fun m wr=>∃ k:Nat,k<=100/\m=.int .i64 k/\dL wr (w.heap.size+1) 164 (dh k ++ List.replicate (200 - 2 * k) 0)/\dL wr w.heap.size 164 (List.replicate 200 0)/\Below w.heap.size w wr) (fun m _=>100 - (intOf m).toNat)
 case atStart=>exact⟨0,by omega,rfl,b,d,f⟩
 case round =>
  clear b d f;obtain⟨k,u,rfl,b,d,f⟩:=hrel;by_cases q:k < 100
  ·have s:(k:Int) < 100:=by omega
   have hlen:(dh k ++ List.replicate (200 - 2 * k) (0:Int)).length=200:=by rw[List.length_append,cA,List.length_replicate];omega
   have n:nth (dh k ++ List.replicate (200 - 2 * k) (0:Int)) (k * 2)=0:=by
    rw[bR (by rw[cA];omega),cn (by rw[cA,List.length_replicate];omega)];simp
   have e1:nth (dh k ++ List.replicate (200 - 2 * k) (0:Int)) (k * 2+1)=0:=by
    rw[bR (by rw[cA];omega),cn (by rw[cA,List.length_replicate];omega)];simp
   have c1:=b.cell (i:=k * 2) (by rw[hlen];omega);have c2:=b.cell (i:=k * 2+1) (by rw[hlen];omega);rw[n] at c1;rw[e1] at c2;have f1:=b.free (k * 2);have f2:=b.free (k * 2+1)
   have t:Hid (dL ((wr.setCell ⟨w.heap.size+1,k * 2,none⟩ (.int .u8 (48+(k:Int) / 10))).setCell ⟨w.heap.size+1,k * 2+1,none⟩ (.int .u8 (48+(k:Int) % 10))) (w.heap.size+1) 164 (dh (k+1) ++ List.replicate (200 - 2 * (k+1)) 0)):=by
    have:=(b.set (k * 2) (48+(k:Int) / 10)).set (k * 2+1) (48+(k:Int) % 10)
    have hs:((dh k ++ List.replicate (200 - 2 * k) (0:Int)).set (k * 2) (48+(k:Int) / 10)).set (k * 2+1) (48+(k:Int) % 10)=dh (k+1) ++ List.replicate (200 - 2 * (k+1)) 0:=by
     rw[show 200 - 2 * k=200 - 2 * (k+1)+1+1 by omega,List.replicate_succ,List.replicate_succ,dh];rw[show k * 2=(dh k).length by rw[cA];omega];rw[List.set_append_right _ _ (Nat.le_refl _),Nat.sub_self,List.set_cons_zero,List.set_append_right _ _ (by omega),Nat.add_sub_cancel_left,List.set_cons_succ,List.set_cons_zero];simp
    rw[hs] at this;exact this
   have r:Hid (dL ((wr.setCell ⟨w.heap.size+1,k * 2,none⟩ (.int .u8 (48+(k:Int) / 10))).setCell ⟨w.heap.size+1,k * 2+1,none⟩ (.int .u8 (48+(k:Int) % 10))) w.heap.size 164 (List.replicate 200 0)):=(d.other (by omega) _).other (by omega) _
   have l:Hid (Below w.heap.size w ((wr.setCell ⟨w.heap.size+1,k * 2,none⟩ (.int .u8 (48+(k:Int) / 10))).setCell ⟨w.heap.size+1,k * 2+1,none⟩ (.int .u8 (48+(k:Int) % 10)))):=(f.setCell (p:=⟨w.heap.size+1,k * 2,none⟩) (by show w.heap.size<=w.heap.size+1;omega) _).setCell (p:=⟨w.heap.size+1,k * 2+1,none⟩) (by show w.heap.size<=w.heap.size+1;omega) _;clear b d f n e1 hlen;go_wp2;go_roundw
   case rel=>exact⟨k+1,by omega,by go_num,t.out,r.out,l.out⟩
   case measure=>simp[intOf];omega
  ·have j:k=100:=by omega
   subst j;rw[show dh 100 ++ List.replicate (200 - 2 * 100) (0:Int)=dh 100 by simp] at b
   have c:((dh 100).map (Value.int .u8)).toArray.size=200:=by simp[cA]
   have l:=(show Hid _ from f)
   go_wp2_with (first
    | (refine wpList_load_row rfl 164 (.tmp 1) rfl (w.heap.size+1) rfl 164 _ (0,0) _ b.blk Tryz.underlying164 rfl (by rw[c];kernel_rfl) ?_)
    | (refine wpList_store_row rfl 164 (.tmp 0) (.tmp 18) rfl w.heap.size _ rfl rfl 164 _ d.blk (by rw[c];kernel_rfl) (by rw[c];simp) (by simp[Value.oneCell']) ?_))
   have g:=setRow_heap wr w.heap.size _ ((dh 100).map (Value.int .u8)).toArray _ _ d.blk;refine bodyPost_ret (results_cell_row rfl _ _ w.heap.size 164 _ (0,0) _ rfl g Tryz.underlying164 rfl (by rw[c];kernel_rfl)) rfl ?_
   exact⟨rfl,below_setRow l.out (Nat.le_refl _) _⟩
end
end Go.Proofs.YtjejmkcjflhoiaaGreatDoor
namespace Go.Proofs.YtjejmkcjflhoiaaGreatDoor
open Go.RowKit Lim
section
variable {l:List Int}{w:World}{B n:Nat}{v:Value}{xs:List Value}
def eG:List Int->Int
 | []=>0
 | x :: l=>x+10000000000000000000 * eG l
def fW(l:List Int):Prop:=∀ x∈l,0<=x/\x < 10000000000000000000
theorem lO(a b:List Int):eG (a ++ b)=eG a+10000000000000000000 ^ a.length * eG b:=by
 induction a with
 | nil=>simp[eG]
 | cons x a ih=>simp only[List.cons_append,eG,ih,List.length_cons,Int.pow_succ];grind
theorem iJ(h:fW l):0<=eG l:=by
 induction l with
 | nil=>simp[eG]
 | cons x l ih=>have:=h x List.mem_cons_self;have:=ih fun y hy=>h y (List.mem_cons_of_mem _ hy);simp only[eG];omega
def lenOf:Value->Nat | .slice _ n _=>n | _=>0
theorem vf:Tryz.prog.underlying 29=some (.slice 22):=by kernel_rfl
theorem DZ{e:TypeId}(h:w.ownsRow B e 1 v n xs):lenOf v=n:=by
 rcases h.2 with⟨rfl,h0⟩ | ⟨g',cap,cur,rfl,_⟩
 ·simp[lenOf,h0]
 ·rfl
theorem eI.wr{b o:Nat}{w':World}(h:eI w B v l)(hw:Wr b o n w w')(hb:b < B):eI w' B v l:=by
 obtain⟨f,a⟩:=h;refine⟨f,?_⟩;rcases a with a | ⟨g,cap,cur,rfl,c,d,e⟩
 ·exact .inl a
 ·exact .inr ⟨g,cap,cur,rfl,c,by rw[hw.block g (by omega)];exact d,e⟩
theorem eI.mono{B':Nat}(h:eI w B v l)(hB:B'<=B):eI w B' v l:=by
 obtain⟨h1,h2⟩:=h;refine⟨h1,?_⟩;rcases h2 with h2 | ⟨g,cap,cur,rfl,hB1,hr⟩
 ·exact .inl h2
 ·exact .inr ⟨g,cap,cur,rfl,by omega,hr⟩
theorem np{k:Nat}{V R:Int}(e:10000000000000000000 ^ k * R<=V)(a:1<=R)(b:V < 18446744073709551616 ^ n):k<=2 * n:=by
 by_cases c:k<=2 * n
 ·exact c
 ·have e1:(18446744073709551616:Int) ^ n<=(4294967296 ^ 2) ^ n:=by rw[show (4294967296:Int) ^ 2=18446744073709551616 from rfl]; exact Int.le_refl _
  rw[<- Int.pow_mul] at e1
  have e2:(4294967296:Int) ^ (2 * n)<=4294967296 ^ k:=by
   have:(4294967296:Nat) ^ (2 * n)<=4294967296 ^ k:=Nat.pow_le_pow_right (by decide) (by omega)
   have a1:((4294967296 ^ (2 * n):Nat):Int)=(4294967296:Int) ^ (2 * n):=by rw[Int.natCast_pow];rfl
   have a2:((4294967296 ^ k:Nat):Int)=(4294967296:Int) ^ k:=by rw[Int.natCast_pow];rfl
   omega
  have e3:(4294967296:Int) ^ k<=10000000000000000000 ^ k:=by
   have:(4294967296:Nat) ^ k<=10000000000000000000 ^ k:=Nat.pow_le_pow_left (by omega) _
   have a1:((4294967296 ^ k:Nat):Int)=(4294967296:Int) ^ k:=by rw[Int.natCast_pow];rfl
   have a2:((10000000000000000000 ^ k:Nat):Int)=(10000000000000000000:Int) ^ k:=by rw[Int.natCast_pow];rfl
   omega
  have d:(10000000000000000000:Int) ^ k * 1<=10000000000000000000 ^ k * R:=Int.mul_le_mul_of_nonneg_left a (Int.le_of_lt (Int.pow_pos (by decide)));omega
theorem lg(ao:Option Addr)(n c b o:Nat)(l:List Int)(w:World)(hl:l.length=n)(hc:n<=c)(ad:n<=1099511627776)(wl:Words l)(ha:At w ao b o l) :
  Calls Tryz.prog 83 #[.slice ao n c] w fun e w'=>∃ v g,e=.returned v/\eI w' w.heap.size v g/\fW g/\eG g=val l/\(g≠[]->0 < nth g (g.length - 1))/\g.length<=2 * n+1/\Below w.heap.size w w':=by
 obtain⟨i0,hi,hz0,ab,M⟩:=info_parts iM;have hV:=dP wl;rw[hl] at hV;go_enter Tryz.func83,Tryz.ntmps83;go_wp2_with fail;refine(ke ao n c b o l w hl hc ad ha).mono ?_
 rintro e w1 ⟨rfl,m,af⟩;have hn:=bM l;have ac:=aM l;have hI:=cN wl;have E:=m.lt;go_wp2_with fail;go_loopw [3,4] (fun tg tr wr=>∃ (g lr:List Int) (N C:Nat),tr=.slice (some ⟨w.heap.size,0,none⟩) N C/\Hid (N=lr.length)/\N<=C/\N<=n/\Hid (lenOf tg=g.length)/\eI wr (w.heap.size+1) tg g/\fW g/\Words lr/\Hid (aK lr=lr.length)/\Hid (eG g+10000000000000000000 ^ g.length * val lr=val l)/\Hid (g≠[]->val lr=0->0 < nth g (g.length - 1))/\At wr (some ⟨w.heap.size,0,none⟩) w.heap.size 0 lr/\dO wr w.heap.size 0 N/\w.heap.size < wr.heap.size/\Below w.heap.size w wr) (fun tg _ _=>2 * n+2 - lenOf tg)
 case atStart=>exact⟨[],norm l,aK l,aK l,rfl,ac.symm,Nat.le_refl _,by omega,rfl,World.ownsRow_nil _ _ _ _,fun x hx=>by simp at hx,hI.1,hI.2.1,by show _=_;simp[eG,dt],fun h=>absurd rfl h,m.at,m.free _ _,E,af⟩
 case round =>
  clear m af ac hI E hn;obtain⟨g,lr,N,C,rfl,hN,ae,hNn,Z,D,z,L,S,f,A,aa,P,hsz,Q⟩:=hrel;by_cases hlt:0 < N
  ·go_wp2_with fail;refine(ig (some ⟨w.heap.size,0,none⟩) w.heap.size 0 N C 10000000000000000000 lr wr hN.out.symm (by omega) ae (by decide) (by decide) L aa P).mono ?_
   rintro e w2 ⟨left,q,rfl,hf0,hf1,hlz,hwz,F,d,O⟩
   have W:g.length<=2 * n:=by
    have hn0:=hN.out;have hp:=ri L (by have:=S.out;omega);have hg0:=iJ z;have hv:=f.out;exact np (V:=val l) (R:=val lr) (by omega) (by omega) hV
   have r:=D.wr d (by omega)
   have H:w2.ownsRow (w.heap.size+1) 22 1 _ g.length (g.map (Value.int .u64)):=r
   have hsz2:wr.heap.size<=w2.heap.size:=Nat.le_of_eq d.size.symm
   have hsz2':w2.heap.size<=wr.heap.size:=Nat.le_of_eq d.size;generalize hGL:g.length=G at *;have B:=(show Hid _ from hGL)
   clear hGL;go_wp2_with (at_builtin;refine wpList_append_own _ rfl _ _ 29 rfl (w.heap.size+1) 22 i0 (.int .u64 0) 1 8 vf hi hz0 ab M rfl (by decide) _ _ _ rfl (H.alloc _) ⟨w2.heap.size,0,none⟩ 1 1 [.int .u64 left] rfl rfl ?c1 ?c2 ?c3 ?c4 ?c5 ?_)
   case c1=>exact cell_one_new _ _ _
   case c2=>intro u hu;simp at hu;subst hu;rfl
   case c3=>unfold maxLen;omega
   case c4=>omega
   case c5=>simp;omega
   intro v' X j t _
   have s:Below (w.heap.size+1) w2 X:=((Below.refl _ _).alloc (by omega) _).grown t (by simp;omega) (vJ r);have y:=F.below s (.inr (by omega));have I:=d.free P
   have Y:dO X w.heap.size 0 N:=fun i hi=>by rw[s.frozen (p:=⟨w.heap.size,0+i,none⟩) (by show w.heap.size < _;omega)];exact I i hi
   have hM:eI X (w.heap.size+1) v' (g ++ [left]):=by
    unfold eI;rw[List.length_append,B.out,List.map_append];exact j
   have hlv:=DZ j;have hsz3:=s.size
   have HB:Below w.heap.size w X:=(Q.trans (d.below (Nat.le_refl _))).trans (s.mono (by omega));have t3:=bI (some ⟨w.heap.size,0,none⟩) N C q X hlz ae (by omega) y.cells;have ab:=bM q;have M:=aM q;have U:=y.sub (aK q);have hz4:=pr q;have J:=dt q;have hz6:=hwz.norm;rw[show q.take (aK q)=norm q from rfl] at U
   have hvl:0 < val lr:=ri L (by have:=S.out;have:=hN.out;omega)
   have HV:Hid (eG (g ++ [left])+10000000000000000000 ^ (g ++ [left]).length * val (norm q)=val l):=by
    show _=_
    rw[lO,List.length_append,J,<- f.out,<- O,B.out,List.length_singleton,Int.pow_succ];simp only[eG];grind
   have HT:Hid ((g ++ [left])≠[]->val (norm q)=0->0 < nth (g ++ [left]) ((g ++ [left]).length - 1)):=by
    intro _ h0;rw[List.length_append,List.length_singleton,Nat.add_sub_cancel,bR (Nat.le_refl _),Nat.sub_self,db];rw[J] at h0;rw[h0] at O;omega
   have HL:Hid (lenOf v'=(g ++ [left]).length):=by show _=_;rw[hlv,List.length_append,B.out];rfl
   have HO:fW (g ++ [left]):=by
    intro x hx;rcases List.mem_append.1 hx with e | e
    ·exact z x e
    ·simp at e;subst e;exact⟨hf0,hf1⟩
   clear j t H r D y F d O aa P I f A Q s J;generalize aK q=K at *;generalize norm q=R at *;go_wp2_with fail;refine t3.mono ?_
   rintro e w6 ⟨rfl,rfl⟩;go_wp2;go_roundw
   case rel=>exact⟨g ++ [left],R,K,K,rfl,M.symm,Nat.le_refl _,by omega,HL,hM,HO,hz6,hz4,HV,HT,U,fun i hi=>Y i (by omega),by omega,HB⟩
   case measure =>
    rw[HL.out,Z.out,List.length_append,B.out,List.length_singleton];omega
  ·have hN0:lr=[]:=List.eq_nil_of_length_eq_zero (by have:=hN.out; omega);subst hN0;have hv:=f.out;rw[show val []=0 from rfl,Int.mul_zero,Int.add_zero] at hv;have ht:=fun h=>A.out h rfl
   have W:g.length<=2 * n+1:=by
    have hg0:=iJ z;by_cases h0:g=[]
    ·subst h0;simp
    ·have hne:g.length≠0:=fun e=>h0 (List.eq_nil_of_length_eq_zero e)
     have hlast:=ht h0
     have hsp:g=g.take (g.length - 1) ++ [nth g (g.length - 1)]:=by
      rw[<- ez (by omega),show g.length - 1+1=g.length from by omega,List.take_of_length_le (Nat.le_refl _)]
     have hgv:eG g=eG (g.take (g.length - 1))+10000000000000000000 ^ (g.length - 1) * nth g (g.length - 1):=by
      conv=>lhs;rw[hsp]
      rw[lO,List.length_take,Nat.min_eq_left (by omega)];simp[eG]
     have h3:=iJ (l:=g.take (g.length - 1)) (fun x hx=>z x (List.mem_of_mem_take hx));have:=np (V:=val l) (R:=nth g (g.length - 1)) (k:=g.length - 1) (by omega) (by omega) hV;omega
   have T:eI wr w.heap.size _ g:=D.mono (by omega);clear f A Z D hN;have HV:=(show Hid _ from hv)
   clear hv;go_wp2;go_ret;exact⟨_,g,rfl,T,z,HV.out,ht,W,Q⟩
end
end Go.Proofs.YtjejmkcjflhoiaaGreatDoor
namespace Go.Proofs.YtjejmkcjflhoiaaGreatDoor
open Go.RowKit Lim
section
variable {g l:List Int}{w:World}{v:Value}
def sD(u:Int)(wx:World):Prop:=Calls Tryz.prog 84 #[.slice none 0 0,.int .u64 u,.int .i64 10] wx fun e w'=>∃ v d,e=.returned v/\fR w' wx.heap.size v d/\gg d/\dvI d=u/\0 < d.length/\d.length<=20/\nth d 0≠48/\Below wx.heap.size wx w'
theorem ko:Tryz.prog.underlying 9=some .string:=by kernel_rfl
theorem sF:Tryz.prog.underlying 5=some (.int .u8):=by kernel_rfl
theorem py(d:List Int):∀ r:ByteArray,(d.foldl (fun r n=>r.push (UInt8.ofNat n.toNat)) r).data.toList=r.data.toList ++ d.map (fun n=>UInt8.ofNat n.toNat):=by
 induction d with
 | nil=>intro r;simp
 | cons c d ih=>intro r;rw[List.foldl_cons,ih];simp
theorem o4{i:Nat}(h:i < g.length):eG (g.drop i)=nth g i+10000000000000000000 * eG (g.drop (i+1)):=by
 rw[List.drop_eq_getElem_cons h,eG,cn h]
theorem fR.open{B:Nat}(h:fR w B v l)(d:0 < l.length):∃ g c,v=.slice (some ⟨g,0,none⟩) l.length c/\l.length<=c/\B<=g/\AtB w (some ⟨g,0,none⟩) g 0 l/\dO w g 0 l.length:=by
 obtain⟨_,a⟩:=h;rcases a with⟨rfl,h0⟩ | ⟨g,cap,cur,rfl,hB,hh,hle,hmx,hsz,htk⟩
 ·omega
 ·refine⟨g,cap,rfl,hle,hB,⟨.inr rfl,fun i hi=>?_⟩,fun i hi=>?_⟩
  ·have e:cur.toList[i]?=some (.int .u8 (nth l i)):=by
    have b:(cur.toList.take (l.length * 1))[i]?=some (.int .u8 (nth l i)):=by
     rw[htk,List.getElem?_map,List.getElem?_eq_getElem hi,cn hi];rfl
    rwa [Nat.mul_one,List.getElem?_take_of_lt hi] at b
   simp only[World.cell?,hh];simpa using e
  ·simp[World.frozen?,hh]
structure qI(s:ByteArray)(n:Int):Prop where
 bytes:∃ d:List Int,s.data.toList.map (fun c=>(c.toNat:Int))=d/\gg d/\dvI d=n/\0 < d.length/\(d.length=1\/nth d 0≠48)
theorem A7(ao:Option Addr)(n c b o:Nat)(l:List Int)(w:World)(hl:l.length=n)(hc:n<=c)(hbig:n<=4294967296)(wl:Words l)(ha:At w ao b o l)(I:∀ g,fW g->eG g=val l->g≠[]->0 < nth g (g.length - 1)->∀ wx,Below w.heap.size w wx->sD (nth g (g.length - 1)) wx) :
  Calls Tryz.prog 51 #[.slice ao n c] w fun e w'=>∃ s,e=.returned (.string s)/\qI s (val l)/\s.size<=40 * n+40/\Below w.heap.size w w':=by
 go_enter Tryz.func51,Tryz.ntmps51;go_wp2_with fail;refine(lg ao n c b o l w hl hc (by omega) wl ha).mono ?_
 rintro e w1 ⟨v,g,rfl,hmg,hgo,y,K,hgl,C⟩;obtain⟨ag,cg,rfl,hgc,_,bg,W,hBg,t,_⟩:=hmg.open;have Y:=C.size;by_cases p:g=[]
 ·subst p
  have hv0:val l=0:=by rw[<- y];rfl
  have HV0:=(show Hid _ from hv0)
  clear y hv0;go_wp2;go_ret;refine⟨_,rfl,⟨[48],rfl,fun c hc=>by rw[List.mem_singleton] at hc;subst hc;decide,by rw[HV0.out];rfl,by simp,.inl rfl⟩,?_,C⟩
  show 1<=_;omega
 ·have hgp:0 < g.length:=Nat.pos_of_ne_zero fun e=>p (List.eq_nil_of_length_eq_zero e)
  rcases W with e | rfl
  ·exact absurd e p
  have tA:=I g hgo y p (K p);have HGV:=(show Hid _ from y)
  have i:=t.cell (g.length - 1) (by omega);rw[Nat.zero_add] at i;obtain⟨m,hm⟩:∃ m,g.length=m+1:=⟨g.length - 1,by omega⟩
  rw[hm,Nat.add_sub_cancel] at i tA;have O:=(show Hid _ from hm)
  rw[hm]
  have hu0:(m:Int) < (m:Int)+1:=by omega
  clear y K I hm hgc
  have hmg1:m+1<=2 * n+1:=by have:=O.out;omega
  generalize hU:nth g m=U at *;have HU:=(show Hid _ from hU)
  clear hU;go_wp2_with fail;have tB:=tA w1 C;unfold sD at tB;clear tA;refine tB.mono ?_
  rintro e w2 ⟨v2,d0,rfl,X,Z,E,G,hd21,J,A⟩;have hsz2:=A.size;have V:=t.keep A;go_wp2_with fail;go_loopw [5,21] (fun tt ti wr=>∃ (k:Nat) (d:List Int),k<=m/\ti=.int .i64 k/\fR wr w1.heap.size tt d/\gg d/\Hid (dvI d=eG (g.drop (m - k)))/\0 < d.length/\d.length<=20+19 * k/\nth d 0≠48/\Below w1.heap.size w1 wr) (fun _ ti _=>m - (intOf ti).toNat)
  case atStart=>exact⟨0,d0,Nat.zero_le _,rfl,X,Z,by show _=_;rw[E,Nat.sub_zero,o4 (by have:=O.out;omega),List.drop_of_length_le (by have:=O.out;omega),HU.out];simp[eG],G,by omega,J,A⟩
  case round =>
   clear X Z E G hd21 J A V;obtain⟨k,d,hk,rfl,R,N,B,z,hdl1,F,D⟩:=hrel;by_cases hlt:k < m
   ·obtain⟨h,hh⟩:∃ h:Nat,(m:Int) - 1 - k=h:=⟨m - 1 - k,by omega⟩
    have hh1:(h:Int) < (m:Int)+1:=by omega
    have hhm:m - k=h+1:=by omega
    have H:=t.below (D.mono (Nat.le_refl _)) (.inr (aL i));have hcw:=H.cell h (by have:=O.out;omega);rw[Nat.zero_add] at hcw;have Q:=hgo (nth g h) (mw (by have:=O.out;omega));have HD:=B.out;rw[hhm] at HD
    have HD:Hid (dvI d=eG (g.drop (h+1))):=HD
    have HG:Hid (eG (g.drop (m - (k+1)))=nth g h+10000000000000000000 * eG (g.drop (h+1))):=by
     show _=_
     rw[show m - (k+1)=h from by omega,o4 (by have:=O.out;omega)]
    have HX:Hid (nth g h=nth g h):=rfl;generalize nth g h=x at *;clear H B;go_wp2_with (go_at_call 85;refine(l6 w1.heap.size _ d x _ D.size R (by omega) Q.1 Q.2).mono ?_;rintro e w5 ⟨v5,q,rfl,hm5,hq5,hql,hqv,hb5⟩);go_roundw
    case rel =>
     refine⟨k+1,d ++ q,by omega,by go_num,hm5,?_,?_,by simp;omega,by simp;omega,?_,D.trans hb5⟩
     ·intro c hc;rcases List.mem_append.1 hc with e | e
      ·exact N c e
      ·exact hq5 c e
     ·show _=_
      rw[ga,hql,hqv,HD.out,HG.out,show (10:Int) ^ 19=10000000000000000000 from rfl];grind
     ·rw[dq z];exact F
    case measure=>simp[intOf];omega
   ·have hkm:k=m:=by omega
    subst hkm;rw[Nat.sub_self,List.drop_zero] at B;obtain⟨gb,cb,rfl,hdc,hgb,hatd,_⟩:=R.open z
    have f:=run_loadCells_list (P:=Tryz.prog) wr ⟨gb,0,none⟩ (d.map (Value.int .u8)) (fun j u hu=>by
     rw[List.getElem?_map] at hu
     have M:j < d.length:=by
      rcases Nat.lt_or_ge j d.length with M | M
      ·exact M
      ·rw[List.getElem?_eq_none M] at hu;simp at hu
     rw[List.getElem?_eq_getElem M] at hu;simp at hu;subst hu;have:=hatd.cell j M;rw[cn M] at this;rw[<- this];by_cases T:j=0
     ·subst T;exact congrArg wr.cell? (by simp[Addr.add])
     ·exact congrArg wr.cell? (by simp[Addr.add,T]))
    rw[List.length_map] at f;have L:=(run_convert_bytes_string (P:=Tryz.prog) wr 87 9 5 (some ⟨gb,0,none⟩) d.length cb cY sF ko).trans (run_bytesToString wr ⟨gb,0,none⟩ d.length cb d f);obtain⟨S,hS⟩:∃ S,d.foldl (fun r n=>r.push (UInt8.ofNat n.toNat)) ByteArray.empty=S:=⟨_,rfl⟩
    rw[hS] at L;have HS:=(show Hid _ from hS)
    clear hS f
    have HB:Below w.heap.size w wr:=C.trans (D.mono Y);go_wp2;go_ret;have e1:=py d ByteArray.empty;rw[HS.out] at e1
    have e2:S.data.toList.map (fun c=>(c.toNat:Int))=d:=by
     rw[e1];simp only[show ByteArray.empty.data.toList=[] from rfl,List.nil_append,List.map_map]
     conv=>rhs;rw[<- List.map_id d]
     apply List.map_congr_left;intro c hc;have:=N c hc;simp[Function.comp,UInt8.toNat_ofNat'];omega
    refine⟨S,rfl,⟨d,e2,N,by rw[B.out,HGV.out],z,.inr F⟩,?_,HB⟩;have:S.size=d.length:=by rw[<- e2];simp
    omega
end
end Go.Proofs.YtjejmkcjflhoiaaGreatDoor
namespace Go.Proofs
open Go.Shelf
def Tryz.sy:Go.Shelf.Ren:=⟨fun | 162=>52 | 232=>86 | 227=>87 | 234=>88 | 236=>89 | 228=>138 | 271=>139 | 151=>140 | 120=>189 | 197=>190 | 152=>191 | 260=>223 | 137=>224 | 119=>225 | 224=>226 | 225=>227 | 217=>244 | 266=>252 | n=>n,fun | 9=>9 | 4=>4 | 3=>3 | 5=>5 | 117=>158 | 116=>157 | 0=>0 | 124=>161 | 21=>21 | 105=>213 | 46=>249 | 119=>228 | 139=>326 | 138=>325 | n=>n,fun | 3=>3 | 4=>4 | n=>n⟩
theorem Tryz.Dx:Go.Proofs.Lays.n162 Tryz.prog Tryz.sy:={
 mixed:=by kernel_rfl
 f119:=Tryz.func225.trans (congrArg some (by kernel_rfl))
 f120:=Tryz.func189.trans (congrArg some (by kernel_rfl))
 f137:=Tryz.func224.trans (congrArg some (by kernel_rfl))
 f151:=Tryz.func140.trans (congrArg some (by kernel_rfl))
 f152:=Tryz.func191.trans (congrArg some (by kernel_rfl))
 f162:=Tryz.func52.trans (congrArg some (by kernel_rfl))
 f197:=Tryz.func190.trans (congrArg some (by kernel_rfl))
 f217:=Tryz.func244.trans (congrArg some (by kernel_rfl))
 f224:=Tryz.func226.trans (congrArg some (by kernel_rfl))
 f225:=Tryz.func227.trans (congrArg some (by kernel_rfl))
 f227:=Tryz.func87.trans (congrArg some (by kernel_rfl))
 f228:=Tryz.func138.trans (congrArg some (by kernel_rfl))
 f232:=Tryz.func86.trans (congrArg some (by kernel_rfl))
 f234:=Tryz.func88.trans (congrArg some (by kernel_rfl))
 f236:=Tryz.func89.trans (congrArg some (by kernel_rfl))
 f260:=Tryz.func223.trans (congrArg some (by kernel_rfl))
 f266:=Tryz.func252.trans (congrArg some (by kernel_rfl))
 f271:=Tryz.func139.trans (congrArg some (by kernel_rfl))
 t0:=Tryz.underlying0
 a0:=Tryz.isAgg0
 z0:=Tryz.sizeOf0
 v0:=Tryz.zeroValue0
 t3:=Tryz.underlying3
 a3:=Tryz.isAgg3
 z3:=Tryz.sizeOf3
 v3:=Tryz.zeroValue3
 t4:=Tryz.underlying4
 a4:=Tryz.isAgg4
 z4:=Tryz.sizeOf4
 v4:=Tryz.zeroValue4
 t5:=Tryz.underlying5
 a5:=Tryz.isAgg5
 z5:=Tryz.sizeOf5
 v5:=Tryz.zeroValue5
 t9:=Tryz.underlying9
 a9:=Tryz.isAgg9
 z9:=Tryz.sizeOf9
 v9:=Tryz.zeroValue9
 t21:=Tryz.underlying21
 a21:=Tryz.isAgg21
 z21:=Tryz.sizeOf21
 v21:=Tryz.zeroValue21
 t46:=Tryz.underlying249
 a46:=Tryz.isAgg249
 z46:=Tryz.sizeOf249
 v46:=Tryz.zeroValue249
 t105:=Tryz.underlying213
 a105:=Tryz.isAgg213
 z105:=Tryz.sizeOf213
 v105:=Tryz.zeroValue213
 t116:=Tryz.underlying157
 a116:=Tryz.isAgg157
 z116:=Tryz.sizeOf157
 t117:=Tryz.underlying158
 a117:=Tryz.isAgg158
 z117:=Tryz.sizeOf158
 v117:=Tryz.zeroValue158
 t119:=Tryz.underlying228
 a119:=Tryz.isAgg228
 z119:=Tryz.sizeOf228
 t124:=Tryz.underlying161
 a124:=Tryz.isAgg161
 z124:=Tryz.sizeOf161
 v124:=Tryz.zeroValue161
 t138:=Tryz.underlying325
 a138:=Tryz.isAgg325
 z138:=Tryz.sizeOf325
 v138:=Tryz.zeroValue325
 t139:=Tryz.underlying326
 a139:=Tryz.isAgg326
 z139:=Tryz.sizeOf326
 v139:=Tryz.zeroValue326
 g3:=by kernel_rfl
 g4:=by kernel_rfl }
open Go.RowKit in
theorem Tryz.strings_TrimRight_one (s:ByteArray) (c:UInt8) (hc:c.toNat < 128) (w:World) (hs:s.size<=9223372036854775807) :
  Calls Tryz.prog 52 #[.string s,.string ⟨#[c]⟩] w fun e w'=>e=.returned (.string ⟨(Lib.trimRightB s.data.toList c).toArray⟩)/\w'=w:=Any.strings_TrimRight_one Tryz.Dx s c hc w hs
def Tryz.qm:Go.Shelf.Ren:=⟨fun | 288=>136 | 283=>185 | 284=>186 | 285=>187 | 286=>188 | 129=>142 | 317=>219 | 318=>220 | 319=>221 | 320=>222 | 337=>242 | 338=>243 | n=>n,fun | 37=>87 | 53=>22 | 3=>3 | 4=>4 | 9=>9 | 171=>262 | 0=>0 | 173=>264 | 212=>300 | 51=>301 | 5=>5 | 20=>20 | 213=>302 | 46=>249 | 232=>332 | 233=>333 | n=>n,fun | 17=>2 | 18=>6 | 19=>7 | n=>n⟩
theorem Tryz.Ah:Go.Proofs.LaysM.n288 Tryz.prog Tryz.qm:={
 mixed:=by kernel_rfl
 f129:=Tryz.func142.trans (congrArg some (by kernel_rfl))
 f283:=Tryz.func185.trans (congrArg some (by kernel_rfl))
 f284:=Tryz.func186.trans (congrArg some (by kernel_rfl))
 f285:=Tryz.func187.trans (congrArg some (by kernel_rfl))
 f286:=Tryz.func188.trans (congrArg some (by kernel_rfl))
 f288:=Tryz.func136.trans (congrArg some (by kernel_rfl))
 f317:=Tryz.func219.trans (congrArg some (by kernel_rfl))
 f318:=Tryz.func220.trans (congrArg some (by kernel_rfl))
 f319:=Tryz.func221.trans (congrArg some (by kernel_rfl))
 f320:=Tryz.func222.trans (congrArg some (by kernel_rfl))
 f337:=Tryz.func242.trans (congrArg some (by kernel_rfl))
 f338:=Tryz.func243.trans (congrArg some (by kernel_rfl))
 t0:=Tryz.underlying0
 a0:=Tryz.isAgg0
 z0:=Tryz.sizeOf0
 v0:=Tryz.zeroValue0
 t3:=Tryz.underlying3
 a3:=Tryz.isAgg3
 z3:=Tryz.sizeOf3
 v3:=Tryz.zeroValue3
 t4:=Tryz.underlying4
 a4:=Tryz.isAgg4
 z4:=Tryz.sizeOf4
 v4:=Tryz.zeroValue4
 t5:=Tryz.underlying5
 a5:=Tryz.isAgg5
 z5:=Tryz.sizeOf5
 v5:=Tryz.zeroValue5
 t9:=Tryz.underlying9
 a9:=Tryz.isAgg9
 z9:=Tryz.sizeOf9
 v9:=Tryz.zeroValue9
 t20:=Tryz.underlying20
 a20:=Tryz.isAgg20
 z20:=Tryz.sizeOf20
 v20:=Tryz.zeroValue20
 t37:=Tryz.underlying87
 a37:=Tryz.isAgg87
 z37:=Tryz.sizeOf87
 v37:=Tryz.zeroValue87
 t46:=Tryz.underlying249
 a46:=Tryz.isAgg249
 z46:=Tryz.sizeOf249
 v46:=Tryz.zeroValue249
 t51:=Tryz.underlying301
 a51:=Tryz.isAgg301
 z51:=Tryz.sizeOf301
 v51:=Tryz.zeroValue301
 t53:=Tryz.underlying22
 a53:=Tryz.isAgg22
 z53:=Tryz.sizeOf22
 v53:=Tryz.zeroValue22
 t171:=Tryz.underlying262
 a171:=Tryz.isAgg262
 z171:=Tryz.sizeOf262
 v171:=Tryz.zeroValue262
 t173:=Tryz.underlying264
 a173:=Tryz.isAgg264
 z173:=Tryz.sizeOf264
 v173:=Tryz.zeroValue264
 t212:=Tryz.underlying300
 a212:=Tryz.isAgg300
 z212:=Tryz.sizeOf300
 v212:=Tryz.zeroValue300
 t213:=Tryz.underlying302
 a213:=Tryz.isAgg302
 z213:=Tryz.sizeOf302
 t232:=Tryz.underlying332
 a232:=Tryz.isAgg332
 z232:=Tryz.sizeOf332
 v232:=Tryz.zeroValue332
 t233:=Tryz.underlying333
 a233:=Tryz.isAgg333
 z233:=Tryz.sizeOf333
 v233:=Tryz.zeroValue333
 g17:=by kernel_rfl
 g18:=by kernel_rfl
 g19:=by kernel_rfl
 i0:=by kernel_rfl
 i3:=by kernel_rfl
 i4:=by kernel_rfl
 i5:=by kernel_rfl
 i9:=by kernel_rfl
 i20:=by kernel_rfl
 i37:=by kernel_rfl
 i46:=by kernel_rfl
 i51:=by kernel_rfl
 i53:=by kernel_rfl
 i171:=by kernel_rfl
 i173:=by kernel_rfl
 i212:=by kernel_rfl
 i232:=by kernel_rfl
 i233:=by kernel_rfl
 m17:=by kernel_rfl
 m18:=by kernel_rfl
 m19:=by kernel_rfl }
open Go.RowKit Go.Sort Go.Lib in
theorem Tryz.internal_strconv_AppendUint_10_small (B n u:Nat) (hu:u < 100) (d:Value) (xs:List Value) (w:World) (a:w.ownsRow B 5 1 d n xs) (c:B<=w.heap.size) (b:n+20<=140737488355328) :
  Calls Tryz.prog 136 #[d,.int .u64 u,.int .i64 10] w fun e w'=>∃ v',e=.returned v'/\w'.ownsRow B 5 1 v' (n+(Lib.decDigits u).length) (xs ++ Lib.byteCells (Lib.decDigits u))/\Below B w w'/\Lib.OthersKept 5 none w w':=Any.internal_strconv_AppendUint_10_small Tryz.Ah B n u hu d xs w a c b
end Go.Proofs
namespace Go.Proofs.YtjejmkcjflhoiaaGreatDoor
open Go.RowKit Lim
section
variable {u:Nat}{e:Ending}
theorem sO{n:Nat}(h:n < 256):(UInt8.ofNat n).toNat=n:=by simp[Nat.mod_eq_of_lt h]
theorem EX(u:Nat):gg ((Lib.decDigits u).map fun c=>(c.toNat:Int))/\dvI ((Lib.decDigits u).map fun c=>(c.toNat:Int))=u/\0 < (Lib.decDigits u).length/\(0 < u->nth ((Lib.decDigits u).map fun c=>(c.toNat:Int)) 0≠48):=by
 induction u using Nat.strongRecOn with
 | ind u ih =>
  by_cases h:u < 10
  ·rw[Lib.decDigits,dif_pos h]
   have e:(UInt8.ofNat (48+u)).toNat=48+u:=sO (by omega);simp only[List.map_cons,List.map_nil,e];refine⟨fun c hc=>?_,?_,by simp,fun h0=>?_⟩
   ·rw[List.mem_singleton] at hc;omega
   ·simp[dvI];omega
   ·rw[db];omega
  ·rw[Lib.decDigits,dif_neg h];obtain⟨i1,i2,i3,i4⟩:=ih (u / 10) (by omega)
   have e:(UInt8.ofNat (48+u % 10)).toNat=48+u % 10:=sO (by omega);simp only[List.map_append,List.map_cons,List.map_nil,e];refine⟨i1.snoc (by omega) (by omega),?_,by simp,fun _=>?_⟩
   ·rw[nK,i2];omega
   ·rw[dq (by simpa using i3)];exact i4 (by omega)
theorem mT(l:List UInt8):Lib.byteCells l=(l.map fun c=>(c.toNat:Int)).map (Value.int .u8):=by
 simp[Lib.byteCells]
theorem Cy{a w':World}(h0:0 < u)(b:(Lib.decDigits u).length<=20)(h:∃ v',e=.returned v'/\w'.ownsRow a.heap.size 5 1 v' (0+(Lib.decDigits u).length) ([] ++ Lib.byteCells (Lib.decDigits u))/\Below a.heap.size a w'/\Lib.OthersKept 5 none a w') :
  ∃ v d,e=.returned v/\fR w' a.heap.size v d/\gg d/\dvI d=(u:Int)/\0 < d.length/\d.length<=20/\nth d 0≠48/\Below a.heap.size a w':=by
 obtain⟨v,rfl,c,f,_⟩:=h;obtain⟨d1,d2,d3,d4⟩:=EX u;refine⟨v,_,rfl,?_,d1,d2,by simpa using d3,by simpa using b,d4 h0,f⟩;unfold fR;rw[<- mT,List.length_map];rw[Nat.zero_add,List.nil_append] at c;exact c
theorem dec20(h:u < 18446744073709551616):(Lib.decDigits u).length<=20:=by
 by_cases h0:u=0
 ·subst h0;rw[Lib.decDigits_one (by decide)];simp
 ·have:=Lib.numDigits_eq u (by omega) h;rw[Lib.decDigits_length];split at this<;>omega
theorem xp(u:Nat)(h0:0 < u)(f:u < 100)(c:World):sD (u:Int) c:=by
 unfold sD
 have b:c.ownsRow c.heap.size 5 1 (.slice none 0 0) 0 []:=World.ownsRow_nil _ _ _ _;have t:=Tryz.internal_strconv_AppendUint_10_small c.heap.size 0 u f (.slice none 0 0) [] c b (Nat.le_refl _) (by decide);go_enter Tryz.func84,Tryz.ntmps84;go_wp2_with fail;refine t.mono ?_
 intro e i h;have g:=Cy h0 (dec20 (by omega)) h;obtain⟨v,d,rfl,r⟩:=g;go_wp2;go_ret;exact⟨v,d,rfl,r⟩
end
end Go.Proofs.YtjejmkcjflhoiaaGreatDoor
namespace Go.Proofs.YtjejmkcjflhoiaaGreatDoor
open Go.RowKit Lim
section
variable {k:Nat}{x:Int}
def dE:Nat->Int->List Int
 | 0,_=>[]
 | k+1,x=>dE k (x / 10) ++ [48+x % 10]
theorem dU(k:Nat)(x:Int):(dE k x).length=k:=by
 induction k generalizing x with
 | zero=>rfl
 | succ k ih=>simp[dE,ih]
theorem nE(h:0<=x):gg (dE k x):=by
 induction k generalizing x with
 | zero=>intro c hc;simp[dE] at hc
 | succ k ih=>exact(ih (by omega)).snoc (by omega) (by omega)
theorem sL(h:0<=x):dvI (dE k x)=x % 10 ^ k:=by
 induction k generalizing x with
 | zero=>simp[dE,dvI]
 | succ k ih =>
  rw[dE,nK,ih (by omega),Int.pow_succ]
  have d:(0:Int) < 10 ^ k:=Int.pow_pos (by decide);have e1:=Int.mul_ediv_add_emod (x / 10) (10 ^ k);have e2:=Int.mul_ediv_add_emod x 10;have e3:=Int.emod_nonneg (x / 10) (show (10:Int) ^ k≠0 by omega);have e:=Int.emod_lt_of_pos (x / 10) d;generalize x / 10 % 10 ^ k=r at *;generalize hq:x / 10 / 10 ^ k=q at *;generalize (10:Int) ^ k=P at *
  have c:x=(10 * r+x % 10)+(P * 10) * q:=by
   have:10 * (P * q+r)+x % 10=x:=by rw[e1];omega
   rw[<- this];rw[Int.mul_add];have:10 * (P * q)=P * 10 * q:=by rw[<- Int.mul_assoc,Int.mul_comm 10 P]
   omega
  conv=>rhs;rw[c]
  rw[Int.add_mul_emod_self_left,Int.emod_eq_of_lt (a:=10 * r+x % 10) (b:=P * 10) (by omega) (by omega)];omega
theorem mJ(k m:Nat)(x:Int)(h:0<=x):dE (k+m) x=dE k (x / 10 ^ m) ++ dE m x:=by
 induction m generalizing x with
 | zero=>simp[dE]
 | succ m ih =>
  rw[Nat.add_succ,dE,ih _ (by omega),dE,List.append_assoc];congr 2
  rw[Int.pow_succ,Int.mul_comm,<- Int.ediv_ediv_of_nonneg (by decide)]
theorem B9(k:Nat)(x:Int):dE (k+2) x=dE k (x / 100) ++ [48+x % 100 / 10,48+x % 100 % 10]:=by
 rw[dE,dE,List.append_assoc]
 have e1:x / 10 / 10=x / 100:=by omega
 have e2:x / 10 % 10=x % 100 / 10:=by omega
 have e3:x % 10=x % 100 % 10:=by omega
 rw[e1,e2,e3];rfl
end
end Go.Proofs.YtjejmkcjflhoiaaGreatDoor
namespace Go.Proofs.YtjejmkcjflhoiaaGreatDoor
open Go.RowKit Lim
section
variable {l:List Int}
theorem jg(h:gg l):0<=dvI l/\dvI l < 10 ^ l.length:=by
 induction l with
 | nil=>simp[dvI]
 | cons c l ih =>
  have hc:=h c (by simp);have:=ih fun x hx=>h x (by simp[hx])
  have e:dvI (c :: l)=(c - 48) * 10 ^ l.length+dvI l:=by rw[show c :: l=[c] ++ l from rfl,ga];simp[dvI]
  have a:(0:Int) < 10 ^ l.length:=Int.pow_pos (by decide)
  have d:0<=(c - 48) * 10 ^ l.length:=Int.mul_nonneg (by omega) (Int.le_of_lt a)
  have b:(c - 48) * 10 ^ l.length<=9 * 10 ^ l.length:=Int.mul_le_mul_of_nonneg_right (by omega) (Int.le_of_lt a);rw[e,List.length_cons,Int.pow_succ];omega
theorem dvI_ge(h:gg l)(h0:0 < l.length)(a:nth l 0≠48):10 ^ (l.length - 1)<=dvI l:=by
 cases l with
 | nil=>simp at h0
 | cons c l =>
  rw[db] at a;have hc:=h c (by simp);have hb:=jg (l:=l) fun x hx=>h x (by simp[hx])
  have e:dvI (c :: l)=(c - 48) * 10 ^ l.length+dvI l:=by rw[show c :: l=[c] ++ l from rfl,ga];simp[dvI]
  have b:(0:Int) < 10 ^ l.length:=Int.pow_pos (by decide);have:1 * 10 ^ l.length<=(c - 48) * 10 ^ l.length:=Int.mul_le_mul_of_nonneg_right (by omega) (Int.le_of_lt b);rw[e,List.length_cons,Nat.add_sub_cancel];omega
theorem qt:∀ {a b:List Int},gg a->gg b->a.length=b.length->dvI a=dvI b->a=b
 | [],[],_,_,_,_=>rfl
 | x :: a,y :: b,ha,hb,hl,hv=>by
  have ha':gg a:=fun z g=>ha z (by simp[g])
  have f:gg b:=fun z g=>hb z (by simp[g])
  have d:a.length=b.length:=by simpa using hl
  have i:=jg ha';have j:=jg f
  have e1:dvI (x :: a)=(x - 48) * 10 ^ b.length+dvI a:=by rw[show x :: a=[x] ++ a from rfl,ga,d];simp[dvI]
  have e2:dvI (y :: b)=(y - 48) * 10 ^ b.length+dvI b:=by rw[show y :: b=[y] ++ b from rfl,ga];simp[dvI]
  rw[e1,e2] at hv;rw[d] at i
  have h:(0:Int) < 10 ^ b.length:=Int.pow_pos (by decide)
  have e:x=y:=by
   rcases Int.lt_trichotomy x y with c | c | c
   ·have:(x - 48+1) * 10 ^ b.length<=(y - 48) * 10 ^ b.length:=Int.mul_le_mul_of_nonneg_right (by omega) (Int.le_of_lt h);rw[Int.add_mul] at this;omega
   ·exact c
   ·have:(y - 48+1) * 10 ^ b.length<=(x - 48) * 10 ^ b.length:=Int.mul_le_mul_of_nonneg_right (by omega) (Int.le_of_lt h);rw[Int.add_mul] at this;omega
  subst e;rw[qt ha' f d (by omega)]
theorem vd{a b:List Int}(c:gg a)(hb:gg b)(h0:0 < a.length)(d:0 < b.length)(ka:a.length=1\/nth a 0≠48)(kb:b.length=1\/nth b 0≠48)(hv:dvI a=dvI b):a=b:=by
 apply qt c hb _ hv
 have key:∀ {a b:List Int},gg a->gg b->0 < a.length->0 < b.length->(b.length=1\/nth b 0≠48)->dvI a=dvI b->¬ a.length < b.length:=by
  intro a b c hb h0 d kb hv f;have g:=(jg c).2;rcases kb with e | e
  ·omega
  ·have h:=dvI_ge hb d e;have:=Aa (show a.length<=b.length - 1 by omega);omega
 have k1:=key c hb h0 d kb hv;have i:=key hb c d h0 ka hv.symm;omega
theorem De{S:ByteArray}{n:Int}(h:qI S n)(l:List UInt8)(hd:(l.map (fun c=>(c.toNat:Int))).all (fun c=>decide (48<=c/\c<=57))=true)(hv:dvI (l.map (fun c=>(c.toNat:Int)))=n)(h0:0 < l.length)(p:l.length=1\/nth (l.map (fun c=>(c.toNat:Int))) 0≠48):S=⟨l.toArray⟩:=by
 obtain⟨d,e,f,i,j,g⟩:=h.bytes
 have o:gg (l.map (fun c=>(c.toNat:Int))):=fun c hc=>by
  rw[List.all_eq_true] at hd;simpa using hd c hc
 have:=vd f o j (by simpa using h0) g (by simpa using p) (i.trans hv.symm);rw[<- e] at this
 have k:S.data.toList=l:=List.map_inj_right (fun a b m=>UInt8.toNat_inj.1 (by omega)) |>.1 this
 cases S with
 | mk arr=>simp at k;simp[<- k]
end
end Go.Proofs.YtjejmkcjflhoiaaGreatDoor
namespace Go.Proofs.YtjejmkcjflhoiaaGreatDoor
open Go.RowKit Lim
section
variable {w w':World}{ao:Option Addr}{n c X g:Nat}{x:Int}{l d:List Int}{ops:Array Oper}{K:Act->World->Prop}
theorem nSmall(h:et w ao n c x)(hn:n<=1099511627776)(hx:x < 18446744073709551616) :
  Calls Tryz.prog 92 #[.slice ao n c] w fun e w'=>e=.returned (.tuple #[.int .u64 x,.bool true])/\Below w.heap.size w w':=by
 obtain⟨b,o,l,i,m,f,g⟩:=h.ex
 have d:aK l=n:=f.2.1.trans i
 have p:n<=1:=by
  rcases Nat.lt_or_ge 1 n with e | e
  ·have q:=eN f.1 (by omega);have r:=iz (show 1<=aK l - 1 by omega);rw[f.2.2] at q
   have h7:(18446744073709551616:Int) ^ 1=18446744073709551616:=by decide
   omega
  ·exact e
 have t:=bI ao n c l w i m (by omega) g.cells;rw[d] at t;have hv:=f.2.2;rcases(show n=0\/n=1 by omega) with e | e
 ·subst e;obtain rfl:l=[]:=List.eq_nil_of_length_eq_zero i
  have j:x=0:=by rw[<- hv];rfl
  subst j;clear hv d;go_enter Tryz.func92,Tryz.ntmps92;go_wp2_with fail;refine t.mono ?_
  rintro e w' ⟨rfl,rfl⟩;go_wp2;go_ret2;exact⟨rfl,Below.refl _ _⟩
 ·subst e;obtain⟨y,rfl⟩:∃ y,l=[y]:=by
   match l,i with
   | [y],_=>exact⟨y,rfl⟩
  have hy:y=x:=by rw[<- hv];simp[val]
  subst hy;have hc:=g.cell 0 (by simp);obtain rfl:ao=some ⟨b,o,none⟩:=by
   rcases g.loc with e | e
   ·simp at e
   ·exact e
  rw[db,Nat.add_zero] at hc;clear hv d g f;go_enter Tryz.func92,Tryz.ntmps92;go_wp2_with fail;refine t.mono ?_
  rintro e w' ⟨rfl,rfl⟩;go_wp2;go_ret2;exact⟨rfl,Below.refl _ _⟩
theorem Eb(i:Nat)(h:i < 100):∀ j v,[Value.int .u8 (48+(i:Int) / 10),Value.int .u8 (48+(i:Int) % 10)][j]?=some v->∀ (w:World) (gp:Nat),dL w gp 164 (dh 100)->w.cell? ((⟨gp,i * 2,none⟩:Addr).add j)=some v:=by
 intro j v a w gp R;have c:=cA 100;obtain⟨b,p1⟩:=xZ h
 match j,a with
 | 0,a =>
  simp at a;subst a;have:=R.cell (i:=2 * i) (by omega);rw[b] at this;rw[<- this];exact congrArg w.cell? (by simp[Addr.add,Nat.mul_comm])
 | 1,a =>
  simp at a;subst a;have:=R.cell (i:=2 * i+1) (by omega);rw[p1] at this;rw[<- this];exact congrArg w.cell? (by simp[Addr.add,Nat.mul_comm])
 | j+2,a=>simp at a
theorem EN(g E:Nat)(h:E<=34)(W:World):(Instr.sliceAt 162 (.pointer (some ⟨g,0,none⟩)) (some (.int .i64 (E:Int))) none none).run Tryz.prog W=.ok (.slice (some ⟨g,E,none⟩) (36 - E) (36 - E)) W:=by
 have a:Tryz.prog.arrayLen 162=36:=by kernel_rfl
 have b:Tryz.prog.elem 162=5:=by kernel_rfl
 have hu:Tryz.prog.underlying 162=some (.array (Tryz.prog.arrayLen 162) (Tryz.prog.elem 162)):=by kernel_rfl
 have hs:(sizeOf 5).run Tryz.prog W=.ok 1 W:=by kernel_rfl
 rw[run_sliceAt_array_l W 162 ⟨g,0,none⟩ hu .i64 (E:Int) (by omega) (by rw[a];omega),b,hs,a];simp only[Result.andThen,slicedAt,Int.toNat_natCast,Nat.mul_one];rw[if_neg (by omega)];congr 3
 unfold Addr.add;split<;>simp_all
theorem slice2(g o:Nat)(W:World):(Instr.sliceAt 163 (.pointer (some ⟨g,o,none⟩)) none none none).run Tryz.prog W=.ok (.slice (some ⟨g,o,none⟩) 2 2) W:=by
 have b:Tryz.prog.arrayLen 163=2:=by kernel_rfl
 have a:Tryz.prog.elem 163=5:=by kernel_rfl
 have hu:Tryz.prog.underlying 163=some (.array (Tryz.prog.arrayLen 163) (Tryz.prog.elem 163)):=by kernel_rfl
 have hs:(sizeOf 5).run Tryz.prog W=.ok 1 W:=by kernel_rfl
 rw[run_sliceAt_array_all W 163 ⟨g,o,none⟩ hu,a,hs,b];simp[Result.andThen,slicedAt,Addr.add]
theorem Dg:(Tryz.prog.info? 5).map (·.size)=some 1:=by kernel_rfl
theorem vq{en k:Nat}(a:l.length=36)(he:en<=36)(b:2 * k+2<=en) :
  splice ((l.take (en - 2 * k) ++ dE (2 * k) X ++ l.drop en).map (Value.int .u8)) (en - 2 * k - 2) [Value.int .u8 (48+(((X / 100 ^ k % 100:Nat):Nat):Int) / 10),Value.int .u8 (48+(((X / 100 ^ k % 100:Nat):Nat):Int) % 10)]
   = (l.take (en - 2 * (k+1)) ++ dE (2 * (k+1)) X ++ l.drop en).map (Value.int .u8):=by
 have hX:(0:Int)<=(X:Int):=by omega
 have e1:dE (2 * (k+1)) (X:Int)=[48+(((X / 100 ^ k % 100:Nat):Nat):Int) / 10,48+(((X / 100 ^ k % 100:Nat):Nat):Int) % 10] ++ dE (2 * k) X:=by
  rw[show 2 * (k+1)=2+2 * k by omega,mJ 2 (2 * k) _ hX];congr 1
  rw[show (2:Nat)=0+2 from rfl,B9]
  have e2:(X:Int) / 10 ^ (2 * k)=((X / 100 ^ k:Nat):Int):=by
   rw[Int.natCast_ediv];congr 1
   rw[Int.pow_mul];simp
  rw[e2];simp[dE]
 rw[e1]
 have hA:(l.take (en - 2 * k)).length=en - 2 * k:=by simp;omega
 unfold splice;simp only[List.map_append,List.append_assoc,List.map_cons,List.length_cons,List.length_nil,List.cons_append,List.nil_append];rw[List.take_append_of_le_length (by simp;omega),List.drop_append,List.drop_of_length_le (by simp;omega)];rw[<- List.map_take,List.take_take,Nat.min_eq_left (by omega),show en - 2 * k - 2=en - 2 * (k+1) by omega];rw[List.length_map,hA,show en - 2 * (k+1)+(0+1+1) - (en - 2 * k)=0 by omega];simp
theorem oG{P:Program}{o:Oper}{a:Act}{Q:Exit->Act->World->Prop}{E:Prop}(i:o.guard=none)(d s:Operand)(l n:TypeId)(r:o.op=.call { callee:=.builtin .copy,args:=#[d,s],argTypes:=#[l,n] })(elem:TypeId)(hu:P.underlying l=some (.slice elem))(k:(P.info? elem).map (·.size)=some 1)(g off dLen dCap:Nat)(ad:Addr)(sLen sCap:Nat)(hd:a.eval d=.slice (some ⟨g,off,none⟩) dLen dCap)(hs:a.eval s=.slice (some ad) sLen sCap)(cur:List Value)(t:TypeId)(p:w.heap[g]?=some (.cells cur.toArray t (0,0)))(cs:List Value)(hn:cs.length=Nat.min sLen dLen)(f:∀ j v,cs[j]?=some v->w.cell? (ad.add j)=some v)(c:off+cs.length<=cur.length)(m:∀ v∈cs,v.oneCell'=true)(h:∀ w',Hid (w'.heap[g]?=some (.cells (splice cur off cs).toArray t (0,0)))->Hid (∀ b,b≠g->w'.heap[b]?=w.heap[b]?)->Hid (∀ B w0,B<=g->Below B w0 w->Below B w0 w')->K (a.put o.dst (goInt cs.length)) w') :
  if Region.wanted o (yielded ops a.tmps)=true then Oper.wp P o a w K Q else E:=by
 have hw:Region.wanted o (yielded ops a.tmps)=true:=by simp[Region.wanted,i]
 rw[if_pos hw];have e:=run_copy_row (P:=P) w l n o.type elem g off dLen dCap ad sLen sCap cur.toArray t cs hu k p hn f (by simpa using c) m;unfold Oper.wp;simp[execOp,r,resolve,invoke,builtin,hd,hs,e,Result.andThen];exact h _ (show _=_ by simpa[splice] using setRow_heap w g _ _ t _ p) (fun b hb=>setRow_other w g b _ hb) (fun B w0 m q=>below_setRow q m _)
theorem BN{gt g:Nat}(en:Nat)(h:et w ao n c (X:Int))(hn:n<=1099511627776)(hx:X < 1000000000000000000)(T:dL w gt 162 l)(hl:l.length=36)(hen:18<=en)(x:en<=36)(m:dL w g 164 (dh 100))(z:gt≠g) :
  Calls Tryz.prog 91 #[.int .i64 en,.slice ao n c,.pointer (some ⟨gt,0,none⟩),.pointer (some ⟨g,0,none⟩)] w fun e w'=>e=.returned (.tuple #[])/\dL w' gt 162 (l.take (en - 18) ++ dE 18 X ++ l.drop en)/\(∀ B w0,B<=gt->Below B w0 w->Below B w0 w')/\(∀ b,b < w.heap.size->b≠gt->w'.heap[b]?=w.heap[b]?):=by
 go_enter Tryz.func91,Tryz.ntmps91;go_wp2_with fail;refine(nSmall h hn (by omega)).mono ?_
 rintro e Q ⟨rfl,q⟩;have S:=T.lt;have T:=T.keep q;have m:=m.keep q
 have f:Hid (∀ b,b < w.heap.size->b≠gt->Q.heap[b]?=w.heap[b]?):=fun b hb _=>q.block b hb
 have d:Hid (∀ B w0,B<=gt->Below B w0 w->Below B w0 Q):=fun B w0 s o=>o.trans (q.mono (by omega))
 clear h q;go_wp2;go_loopw [0,6,13] (fun te V tk wr=>∃ k:Nat,k<=9/\tk=.int .i64 k/\te=.int .i64 ((en - 2 * k:Nat):Int)/\V=.int .u64 ((X / 100 ^ k:Nat):Int)/\dL wr gt 162 (l.take (en - 2 * k) ++ dE (2 * k) X ++ l.drop en)/\dL wr g 164 (dh 100)/\(∀ B w0,B<=gt->Below B w0 w->Below B w0 wr)/\(∀ b,b < w.heap.size->b≠gt->wr.heap[b]?=w.heap[b]?)) (fun _ _ tk _=>9 - (intOf tk).toNat)
 case atStart=>exact⟨0,by omega,rfl,rfl,by simp,by simpa[dE] using T,m,d.out,f.out⟩
 case round =>
  clear T m f d;obtain⟨k,hk,rfl,rfl,rfl,T,m,d,f⟩:=hrel;by_cases K:k < 9
  ·have hs:=vq (X:=X) hl x (show 2 * k+2<=en by omega);have U:=(show Hid _ from hs)
   have hlen:(l.take (en - 2 * k) ++ dE (2 * k) X ++ l.drop en).length=36:=by simp[dU];omega
   have d:=(show Hid _ from d)
   have f:=(show Hid _ from f)
   have hdiv:X / 100 ^ k / 100=X / 100 ^ (k+1):=by rw[Nat.div_div_eq_div_mul,Nat.pow_succ]
   have W:=(show Hid _ from hdiv)
   have D:X / 100 ^ k < 1000000000000000000:=Nat.lt_of_le_of_lt (Nat.div_le_self _ _) hx;clear hs hdiv;generalize X / 100 ^ k=Y at *
   have hi:Y % 100 < 100:=Nat.mod_lt _ (by decide)
   have htm:(Y:Int).tmod 100=((Y % 100:Nat):Int):=by rw[Int.tmod_eq_emod_of_nonneg (by omega)];omega
   generalize Y % 100=i at *
   have hi0:(i:Int) < 100:=by omega
   have y:=fun j v (A:[Value.int .u8 (48+(i:Int) / 10),Value.int .u8 (48+(i:Int) % 10)][j]?=some v)=>Eb i hi j v A
   have G:=(show Hid _ from y)
   clear y;obtain⟨E,C⟩:∃ E,en - 2 * k=E+2:=⟨en - 2 * k - 2,by omega⟩
   have M:E+2<=36:=by omega
   have L:=(show Hid _ from C)
   rw[C];clear C;have P:=EN gt E (by omega);have R:=slice2 g (i * 2);go_wp2_with fail;go_region_law (refine oG rfl (.tmp 18) (.tmp 22) 87 87 rfl 5 cY Dg gt E (36 - E) (36 - E) ⟨g,i * 2,none⟩ 2 2 (by rfl) (by rfl) _ 162 T.drew.blk [Value.int .u8 (48+(i:Int) / 10),Value.int .u8 (48+(i:Int) % 10)] (by show 2=Nat.min 2 (36 - E);exact(Nat.min_eq_left (by omega)).symm) (fun j v A=>G.out j v A _ g m.drew) (by rw[List.length_map,hlen];show E+2<=36;omega) (by simp[Value.oneCell']) ?_;intro N r t H)
   have O:dL N gt 162 (l.take (en - 2 * (k + 1)) ++ dE (2 * (k + 1)) X ++ l.drop en):=⟨by
    rw[<- U.out,show en - 2 * k - 2=E by have:=L.out;omega];exact r.out⟩
   have u:dL N g 164 (dh 100):=⟨by rw[t.out g (fun e=>z e.symm)];exact m.blk⟩
   have I:=(show Hid _ from O)
   have p:=(show Hid _ from u)
   have Z:(Y:Int).tdiv 100=((Y / 100:Nat):Int):=by rw[Int.tdiv_eq_ediv_of_nonneg (by omega)];omega
   have J:Y / 100 < 1000000000000000000:=Nat.lt_of_le_of_lt (Nat.div_le_self _ _) D;generalize hY2:Y / 100=Y2 at *;have HY2:=(show Hid _ from hY2)
   clear hY2 O u T m r;go_wp2;go_roundw
   case rel=>exact⟨k+1,by omega,by go_num,by rw[show en - 2 * (k+1)=E by have:=L.out;omega],by rw[<- W.out],I.out,p.out,fun B w0 s o=>H.out B w0 s (d.out B w0 s o).drew,fun b s o=>(t.out b o).trans (f.out b s o)⟩
   case measure=>simp[intOf];omega
  ·have F:k=9:=by omega
   subst F;have d:=(show Hid _ from d)
   have f:=(show Hid _ from f)
   go_wp2;go_end0;exact⟨rfl,T,d.out,f.out⟩
theorem et.over{t:TypeId}(h:et w ao n c x)(T:dL w g t l)(q:∀ b,b < w.heap.size->b≠g->w'.heap[b]?=w.heap[b]?):et w' ao n c x:=by
 obtain⟨b,o,m,k,j,p,f⟩:=h.ex;refine⟨b,o,m,k,j,p,f.loc,fun i hi=>?_⟩;have hc:=f.cell i hi;have hb:=aL hc
 have a:b≠g:=by
  intro e;subst e;have d:=T.blk;simp only[World.cell?,d] at hc;simp at hc
 rw[World.cell?_of_block (w:=w) (q b hb a)];exact hc
theorem dL.over{g':Nat}{t:TypeId}(h:dL w g' t l)(hne:g'≠g)(HK:∀ b,b < w.heap.size->b≠g->w'.heap[b]?=w.heap[b]?):dL w' g' t l:=⟨by rw[HK g' h.lt hne];exact h.blk⟩
theorem tU(g:Nat)(W:World):(Instr.sliceAt 162 (.pointer (some ⟨g,0,none⟩)) none none none).run Tryz.prog W=.ok (.slice (some ⟨g,0,none⟩) 36 36) W:=by
 have b:Tryz.prog.arrayLen 162=36:=by kernel_rfl
 have a:Tryz.prog.elem 162=5:=by kernel_rfl
 have hu:Tryz.prog.underlying 162=some (.array (Tryz.prog.arrayLen 162) (Tryz.prog.elem 162)):=by kernel_rfl
 have hs:(sizeOf 5).run Tryz.prog W=.ok 1 W:=by kernel_rfl
 rw[run_sliceAt_array_all W 162 ⟨g,0,none⟩ hu,a,hs,b];simp[Result.andThen,slicedAt,Addr.add]
theorem rP{t:TypeId}(R:dL w g t d)(i:d.length=36)(h:gg d):∃ S:ByteArray,(convert 87 9 (.slice (some ⟨g,0,none⟩) 36 36)).run Tryz.prog w=Result.ok (.string S) w/\S.data.toList.map (fun c=>(c.toNat:Int))=d:=by
 have a:=run_loadCells_list (P:=Tryz.prog) w ⟨g,0,none⟩ (d.map (Value.int .u8)) (fun j u hu=>by
  rw[List.getElem?_map] at hu
  have e:j < d.length:=by
   rcases Nat.lt_or_ge j d.length with e | e
   ·exact e
   ·rw[List.getElem?_eq_none e] at hu;simp at hu
  rw[List.getElem?_eq_getElem e] at hu;simp at hu;subst hu;have:=R.cell e;rw[cn e] at this;rw[<- this];by_cases f:j=0
  ·subst f;exact congrArg w.cell? (by simp[Addr.add])
  ·exact congrArg w.cell? (by simp[Addr.add,f]))
 rw[List.length_map,i] at a;have b:=(run_convert_bytes_string (P:=Tryz.prog) w 87 9 5 (some ⟨g,0,none⟩) 36 36 cY sF ko).trans (run_bytesToString w ⟨g,0,none⟩ 36 36 d a);refine⟨_,b,?_⟩;rw[py d ByteArray.empty];simp only[show ByteArray.empty.data.toList=[] from rfl,List.nil_append,List.map_map]
 conv=>rhs;rw[<- List.map_id d]
 apply List.map_congr_left;intro c hc;have:=h c hc;simp[Function.comp,UInt8.toNat_ofNat'];omega
theorem Du(h:aX w ao n c x)(hn:n≤274877906944)(hx:x < U36) :
    Calls Tryz.prog 53 #[.agg #[.slice ao n c]] w fun e w'=>∃ S:ByteArray,e=.returned (.string S)∧S.data.toList.map (fun c=>(c.toNat:Int))=dE 36 x∧Below w.heap.size w w':=by
  have j:=nU w (.cells #[.slice ao n c] 32) (.cells ((List.replicate 36 (0:Int)).map (Value.int .u8)).toArray 162);have g:=mV (w.alloc (.cells #[.slice ao n c] 32)) 162 (List.replicate 36 0);rw[show (w.alloc (.cells #[.slice ao n c] 32)).heap.size=w.heap.size+1 by simp] at g;have i:=(fg w (.slice ao n c) 32).alloc (.cells ((List.replicate 36 (0:Int)).map (Value.int .u8)).toArray 162);have h:=h.keep j;go_enter Tryz.func53,Tryz.ntmps53;go_wp2_with fail;change Calls _ _ _ ((w.alloc (.cells #[.slice ao n c] 32)).alloc (.cells ((List.replicate 36 (0:Int)).map (Value.int .u8)).toArray 162)) _
  refine dPairs.mono ?_
  rintro e d ⟨rfl,b⟩;have g:=g.keep b;have i:=i.keep b;have h:=h.keep b;have j:=aB j b;have V:=g.lt;clear b
  have o:(d.alloc (.cells Tryz.zeroCells164 164)).heap[d.heap.size]?=some (.cells Tryz.zeroCells164 164 (0,0)):=heap_alloc_new d _
  have y:Tryz.zeroCells164.size=200:=by kernel_rfl
  have t:((dh 100).map (Value.int .u8)).toArray.size=200:=by simp[cA]
  have P:=ae d (.cells Tryz.zeroCells164 164)
  have p:dL ((d.alloc (.cells Tryz.zeroCells164 164)).setRow d.heap.size ((dh 100).map (Value.int .u8)).toArray) d.heap.size 164 (dh 100):=⟨setRow_heap _ _ _ _ _ _ o⟩
  have s:Below d.heap.size d ((d.alloc (.cells Tryz.zeroCells164 164)).setRow d.heap.size ((dh 100).map (Value.int .u8)).toArray):=below_setRow P (Nat.le_refl _) _;have g:=g.keep s;have i:=i.keep s;have h:=h.keep s;have j:=aB j s;have Z:=(show Hid _ from o);have T:=(show Hid _ from y);have A:=(show Hid _ from t);have HBS:=(show Hid _ from s.size);clear o y t P s;generalize hW2:(d.alloc (.cells Tryz.zeroCells164 164)).setRow d.heap.size ((dh 100).map (Value.int .u8)).toArray=w2 at *;have D:=(show Hid _ from hW2);clear hW2;go_wp2_with (refine wpList_store_row rfl 164 (.tmp 4) (.tmp 9) rfl d.heap.size _ rfl rfl 164 _ Z.out (by rw[A.out];kernel_rfl) (by rw[A.out,T.out]) (by simp[Value.oneCell']) ?_;rw[D.out]);obtain⟨X,hX⟩:∃ X:Nat,x=(X:Int):=⟨x.toNat,by have:=h.uP;omega⟩;subst hX
  have R : X < 1000000000000000000000000000000000000 := by have : U36 = 1000000000000000000000000000000000000 := by decide
                                                           omega
  have F:=(show Hid _ from mJ 18 18 (X:Int) (by omega));have q0:=i.cell;go_region_held3 (fun w'=>w'.cell? ⟨w.heap.size,0,none⟩=some (.slice ao n c)) (first | exact(by assumption) | go_keep)
    (first
    | (go_at_call 93;refine(zi 18 (by decide)).mono ?_;rintro e w3 ⟨a3,k3,d3,rfl,M,aa,b⟩;have g:=g.drew.keep b;have p:=p.drew.keep b;have i:=i.drew.keep b;have q0:=i.cell;have h:=h.drew.keep b;have j:=aB j.drew b;clear b)
    | (go_at_call 58;refine(nDiv h M.a (by omega) (by omega) (by decide)).mono ?_;rintro e w4 ⟨a4,k4,d4,a5,k5,d5,rfl,q,f,hk4,Y,b⟩;have g:=g.keep b;have p:=p.keep b;have i:=i.keep b;have q0:=i.cell;have j:=aB j b;clear b h M))
  all_goals (
    have q:=q.eqv (show (X:Int) / 10 ^ 18=((X / 1000000000000000000:Nat):Int) from by omega);have f:=f.eqv (show (X:Int) % 10 ^ 18=((X % 1000000000000000000:Nat):Int) from by omega)
    have L:X / 1000000000000000000 < 1000000000000000000:=by omega
    have G:X % 1000000000000000000 < 1000000000000000000:=by omega
    have I:Hid ((X:Int) / 10 ^ 18=((X / 1000000000000000000:Nat):Int)):=by show _=_;omega
    have K:Hid (dE 18 (X:Int)=dE 18 ((X % 1000000000000000000:Nat):Int)):=by
      show _=_
      apply qt (nE (by omega)) (nE (by omega)) (by simp[dU]);rw[sL (by omega),sL (by omega)];omega
    generalize X / 1000000000000000000=C at *;generalize X % 1000000000000000000=U at *
    have m:w.heap.size+1≠d.heap.size:=by omega
    have u:=BN 18 q (by omega) L g (by simp) (by decide) (by decide) p m;go_wp2_with fail;refine u.mono ?_
    rintro e w5 ⟨rfl,N,B,r⟩;have f:=f.over g r;have p:=p.over (fun e=>m e.symm) r;have Q:=B w.heap.size w (by omega) j;clear u g i q0 B r q j;have z:=BN 36 f (by omega) G N (by simp[dU]) (by decide) (by decide) p m;go_wp2_with fail;refine z.mono ?_
    rintro e W ⟨rfl,E,v,J⟩;have B6:=v w.heap.size w (by omega) Q
    clear z f p v J N Q)
  all_goals (
    have hL:(List.take (36 - 18) (List.take (18 - 18) (List.replicate 36 (0:Int)) ++ dE 18 (C:Int) ++ List.drop 18 (List.replicate 36 0)) ++ dE 18 (U:Int) ++ List.drop 36 (List.take (18 - 18) (List.replicate 36 (0:Int)) ++ dE 18 (C:Int) ++ List.drop 18 (List.replicate 36 0)))=dE 36 (X:Int):=by
      rw[F.out,I.out,K.out]
      have l1:(dE 18 (C:Int)).length=18:=dU _ _;rw[List.take_append_of_le_length (by simp[l1]),List.drop_of_length_le (l:=List.take (18 - 18) (List.replicate 36 (0:Int)) ++ dE 18 (C:Int) ++ List.drop 18 (List.replicate 36 0)) (by simp[l1])];rw[show List.take (18 - 18) (List.replicate 36 (0:Int))=[] from rfl,List.nil_append,List.take_of_length_le (by omega),List.append_nil]
    rw[hL] at E;obtain⟨S,hS1,H⟩:= rP E (dU 36 _) (nE (by omega));have O:=tU (w.heap.size+1) W;clear hL E;go_wp2;go_ret
    exact⟨S,rfl,H,B6⟩)
end
end Go.Proofs.YtjejmkcjflhoiaaGreatDoor
namespace Go.Proofs.YtjejmkcjflhoiaaGreatDoor
open Go.RowKit Lim
end Go.Proofs.YtjejmkcjflhoiaaGreatDoor
namespace Go.Proofs.YtjejmkcjflhoiaaGreatDoor
open Go.RowKit Lim
end Go.Proofs.YtjejmkcjflhoiaaGreatDoor
namespace Go.Proofs.YtjejmkcjflhoiaaGreatDoor
open Go.RowKit Lim
end Go.Proofs.YtjejmkcjflhoiaaGreatDoor
namespace Go.Proofs.YtjejmkcjflhoiaaGreatDoor
open Go.RowKit Lim
section
variable {w:World}{x:Int}{ao:Option Addr}{n c:Nat}
def ui(r:Int):List UInt8:=(dE 36 r).map fun c=>UInt8.ofNat c.toNat
def xm(r:Int):List UInt8:=if r=0 then [] else 46 :: Lib.trimRightB (ui r) 48
structure Bm(S:ByteArray)(x:Int):Prop where
 ex:∃ Sw:ByteArray,qI Sw (x / U36)/\S.data.toList=Sw.data.toList ++ xm (x % U36)
theorem Dv{S:ByteArray}{r:Int}(h:S.data.toList.map (fun c=>(c.toNat:Int))=dE 36 r):S.data.toList=ui r:=by
 unfold ui;rw[<- h,List.map_map]
 conv=>lhs;rw[<- List.map_id S.data.toList]
 apply List.map_congr_left;intro c _;simp[Function.comp]
def lA(w:World)(x:Int):Prop:=∀ g,fW g->eG g=x->g≠[]->0 < nth g (g.length - 1)->∀ wx,Below w.heap.size w wx->sD (nth g (g.length - 1)) wx
theorem lA.keep{w':World}(h:lA w x)(hb:Below w.heap.size w w'):lA w' x:=fun g h1 h2 h3 h4 wx hx=>h g h1 h2 h3 h4 wx (aB hb hx)
theorem yZ(l:List UInt8)(c:UInt8):(Lib.trimRightB l c).length<=l.length:=by
 unfold Lib.trimRightB;rw[List.length_reverse];have:=(List.dropWhile_sublist (fun x=>x == c) (l:=l.reverse)).length_le;rwa [List.length_reverse] at this
theorem rK(r:Int):(ui r).length=36:=by unfold ui;rw[List.length_map,dU]
theorem nText(h:aX w ao n c x)(hn:n<=4294967296)(hA:lA w x) :
  Calls Tryz.prog 51 #[.slice ao n c] w fun e w'=>∃ s,e=.returned (.string s)/\qI s x/\s.size<=40 * n+40/\Below w.heap.size w w':=by
 obtain⟨b,o,l,g,a,d,f,rfl⟩:=h.ex;exact A7 ao n c b o l w g a hn d f hA
theorem yV(h:aX w ao n c x)(hn:n<=4294967000)(hA:lA w (x / U36)) :
  Calls Tryz.prog 21 #[.agg #[.slice ao n c]] w fun e w'=>∃ S:ByteArray,e=.returned (.string S)/\Bm S x/\S.size<=40 * n+100/\Below w.heap.size w w':=by
 have f:=ae w (.cells #[.slice ao n c] 32);have z:=fg w (.slice ao n c) 32;have h:=h.keep f;have hA:=hA.keep f;have q0:=z.cell;go_enter Tryz.func21,Tryz.ntmps21;have G:=h.uP;have v:=C9
 have E:0<=x % U36:=Int.emod_nonneg _ (by omega)
 have s:x % U36 < U36:=Int.emod_lt_of_pos _ v;go_wp2_with fail;refine(dTrunc h (by omega)).mono ?_
 rintro e u ⟨a1,k1,d1,a2,A,d2,rfl,g,d,J,I,b⟩;have f:=aB f b;have hA:=hA.keep b;clear b h z q0;have p:=ae u (.cells #[.slice a2 A d2] 32);have l:=fg u (.slice a2 A d2) 32;have g:=g.keep p;have d:=d.keep p;have hA:=hA.keep p;have f:=aB f p;have y:=nText g.a (by omega) hA;clear p hA;go_wp2_with fail;refine y.mono ?_
 rintro e P ⟨q,rfl,o,L,b⟩;have d:=d.keep b;have l:=l.keep b;have f:=aB f b;have H:=l.cell;clear b y g;have m:=Fm d.a (by omega);generalize u.heap.size=O at *;by_cases j:x % U36=0
 ·rw[decide_eq_true j] at m;have t:=(show Hid _ from j)
  clear j;go_wp2_with fail;refine m.mono ?_
  rintro e K ⟨rfl,b⟩;go_wp2;go_ret;exact⟨q,rfl,⟨q,o,by rw[t.out];simp[xm]⟩,by omega,aB f b⟩
 ·rw[decide_eq_false j] at m;have t:=(show Hid _ from j)
  clear j;go_wp2_with fail;refine m.mono ?_
  rintro e K ⟨rfl,b⟩;have d:=d.keep b;have l:=l.keep b;have f:=aB f b;have H:=l.cell;clear b m;go_wp2_with fail;refine(Du d.a (by omega) s).mono ?_
  rintro e C ⟨S,rfl,hS,b⟩;have i:=Dv hS
  have D:S.size=36:=by
   have:(S.data.toList.map (fun c=>(c.toNat:Int))).length=36:=by rw[hS,dU]
   simpa using this
  have f:=aB f b;clear b hS;have r:=Tryz.strings_TrimRight_one S 48 (by decide) C (by omega);rw[i] at r;generalize hR:(⟨(Lib.trimRightB (ui (x % U36)) 48).toArray⟩:ByteArray)=R at r
  have F:R.size<=36:=by
   have B:=yZ (ui (x % U36)) 48;rw[rK] at B;rw[<- hR];simpa[ByteArray.size] using B
  have M:=(show Hid _ from hR)
  clear i hR;go_wp2_with fail;refine r.mono ?_
  rintro e N ⟨rfl,rfl⟩;go_wp2_with fail;go_ret;refine⟨_,rfl,⟨q,o,?_⟩,?_,f⟩
  ·rw[xm,if_neg t.out,<- M.out];simp
  ·show (q ++ (⟨#[46]⟩:ByteArray) ++ R).size<=_
   rw[ByteArray.size_append,ByteArray.size_append];have:(⟨#[46]⟩:ByteArray).size=1:=rfl;omega
end
end Go.Proofs.YtjejmkcjflhoiaaGreatDoor
