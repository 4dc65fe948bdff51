import Derived.Test.YtgdohcdlkonhiaaGreatDoorJau
import Derived.Test.YtgdohcdlkonhiaaGreatDoorJaj
import Derived.Shelf.Strings.Trim
import Derived.Shelf.Strings.Search1
import Derived.Shelf.Strconv.AppendUint10
set_option maxRecDepth 100000
set_option maxHeartbeats 8000000
namespace Go.Proofs.YtgdohcdlkonhiaaGreatDoor
open Go.RowKit Lim
section
variable {w:World}{g i:Nat}{l:List Int}
structure dt(w:World)(g:Nat)(t:TypeId)(l:List Int):Prop where
 blk:w.heap[g]?=some (.cells (l.map (Value.int .u8)).toArray t (0,0))
theorem dt.lt{t:TypeId}(h:dt w g t l):g < w.heap.size:=lt_of_block h.blk
theorem dt.keep{w':World}{t:TypeId}(h:dt w g t l)(hb:Below w.heap.size w w'):dt w' g t l:=⟨by rw[hb.block g h.lt];exact h.blk⟩
theorem dt.cell{t:TypeId}(h:dt w g t l)(hi:i < l.length):w.cell? ⟨g,i,none⟩=some (.int .u8 (nth l i)):=by
 simp[World.cell?,h.blk,hi,bS hi]
theorem dt.free{t:TypeId}(h:dt w g t l)(i:Nat):w.frozen? ⟨g,i,none⟩=false:=by simp[World.frozen?,h.blk]
theorem dt.set{t:TypeId}(h:dt w g t l)(i:Nat)(x:Int):dt (w.setCell ⟨g,i,none⟩ (.int .u8 x)) g t (l.set i x):=⟨by
 have hb:=h.blk;simp only[World.setCell,Array.getElem?_modify,if_true,hb]
 simp⟩
theorem dt.other{g':Nat}{t:TypeId}(h:dt w g t l)(hne:g≠g')(u:Value):dt (w.setCell ⟨g',i,none⟩ u) g t l:=⟨by rw[Below.heap_setCell w _ u g hne];exact h.blk⟩
theorem dt.drew{t:TypeId}(h:dt w g t l):dt w.drew g t l:=⟨h.blk⟩
theorem mM(w:World)(t:TypeId)(l:List Int):dt (w.alloc (.cells (l.map (Value.int .u8)).toArray t)) w.heap.size t l:=⟨by
 show (w.heap.push _)[w.heap.size]?=_
 rw[Array.getElem?_push_size]⟩
def cO:Nat->List Int
 | 0=>[]
 | k+1=>cO k ++ [48+(k:Int) / 10,48+(k:Int) % 10]
theorem bX(k:Nat):(cO k).length=2 * k:=by
 induction k with
 | zero=>rfl
 | succ k ih=>simp[cO,ih];omega
theorem wW{k:Nat}(h:i < k):nth (cO k) (2 * i)=48+(i:Int) / 10/\nth (cO k) (2 * i+1)=48+(i:Int) % 10:=by
 induction k with
 | zero=>omega
 | succ k ih =>
  have a:=bX k;by_cases e:i=k
  ·subst e;rw[cO,bB (by omega),bB (by omega),a,Nat.sub_self,show 2 * i+1 - 2 * i=1 by omega];exact⟨rfl,rfl⟩
  ·rw[cO,cV (by omega),cV (by omega)];exact ih (by omega)
theorem dPairs:Calls Tryz.prog 137 #[] w fun e w'=>e=.returned (.agg ((cO 100).map (Value.int .u8)).toArray)/\Below w.heap.size w w':=by
 go_enter Tryz.func137,Tryz.ntmps137;go_wp2
 have o:Tryz.zeroCells219=((List.replicate 200 (0:Int)).map (Value.int .u8)).toArray:=by kernel_rfl
 rw[o];have b:=mM (w.alloc (.cells ((List.replicate 200 (0:Int)).map (Value.int .u8)).toArray 219)) 219 (List.replicate 200 0);rw[show (w.alloc (.cells ((List.replicate 200 (0:Int)).map (Value.int .u8)).toArray 219)).heap.size=w.heap.size+1 by simp] at b;have d:=(mM w 219 (List.replicate 200 0)).keep (ai _ (.cells ((List.replicate 200 (0:Int)).map (Value.int .u8)).toArray 219));have f:=nC w (.cells ((List.replicate 200 (0:Int)).map (Value.int .u8)).toArray 219) (.cells ((List.replicate 200 (0:Int)).map (Value.int .u8)).toArray 219);clear o;generalize (w.alloc (.cells ((List.replicate 200 (0:Int)).map (Value.int .u8)).toArray 219)).alloc (.cells ((List.replicate 200 (0:Int)).map (Value.int .u8)).toArray 219)=v at *;go_loopw [3] (fun m wr=>∃ k:Nat,k<=100/\m=.int .i64 k/\dt wr (w.heap.size+1) 219 (cO k ++ List.replicate (200 - 2 * k) 0)/\dt wr w.heap.size 219 (List.replicate 200 0)/\Below w.heap.size w wr) (fun m _=>100 - (intOf m).toNat)
 case atStart=>exact⟨0,by omega,rfl,b,d,f⟩
 case round =>
  clear b d f;obtain⟨k,hk,rfl,b,d,f⟩:=hrel;by_cases q:k < 100
  ·have s:(k:Int) < 100:=by omega
   have hlen:(cO k ++ List.replicate (200 - 2 * k) (0:Int)).length=200:=by rw[List.length_append,bX,List.length_replicate];omega
   have n:nth (cO k ++ List.replicate (200 - 2 * k) (0:Int)) (k * 2)=0:=by
    rw[bB (by rw[bX];omega),bS (by rw[bX,List.length_replicate];omega)];simp
   have e1:nth (cO k ++ List.replicate (200 - 2 * k) (0:Int)) (k * 2+1)=0:=by
    rw[bB (by rw[bX];omega),bS (by rw[bX,List.length_replicate];omega)];simp
   have c1:=b.cell (i:=k * 2) (by rw[hlen];omega);have c2:=b.cell (i:=k * 2+1) (by rw[hlen];omega);rw[n] at c1;rw[e1] at c2;have f1:=b.free (k * 2);have f2:=b.free (k * 2+1)
   have t:Hid (dt ((wr.setCell ⟨w.heap.size+1,k * 2,none⟩ (.int .u8 (48+(k:Int) / 10))).setCell ⟨w.heap.size+1,k * 2+1,none⟩ (.int .u8 (48+(k:Int) % 10))) (w.heap.size+1) 219 (cO (k+1) ++ List.replicate (200 - 2 * (k+1)) 0)):=by
    have:=(b.set (k * 2) (48+(k:Int) / 10)).set (k * 2+1) (48+(k:Int) % 10)
    have u:((cO k ++ List.replicate (200 - 2 * k) (0:Int)).set (k * 2) (48+(k:Int) / 10)).set (k * 2+1) (48+(k:Int) % 10)=cO (k+1) ++ List.replicate (200 - 2 * (k+1)) 0:=by
     rw[show 200 - 2 * k=200 - 2 * (k+1)+1+1 by omega,List.replicate_succ,List.replicate_succ,cO];rw[show k * 2=(cO k).length by rw[bX];omega];rw[List.set_append_right _ _ (Nat.le_refl _),Nat.sub_self,List.set_cons_zero,List.set_append_right _ _ (by omega),Nat.add_sub_cancel_left,List.set_cons_succ,List.set_cons_zero];simp
    rw[u] at this;exact this
   have r:Hid (dt ((wr.setCell ⟨w.heap.size+1,k * 2,none⟩ (.int .u8 (48+(k:Int) / 10))).setCell ⟨w.heap.size+1,k * 2+1,none⟩ (.int .u8 (48+(k:Int) % 10))) w.heap.size 219 (List.replicate 200 0)):=(d.other (by omega) _).other (by omega) _
   have l:Hid (Below w.heap.size w ((wr.setCell ⟨w.heap.size+1,k * 2,none⟩ (.int .u8 (48+(k:Int) / 10))).setCell ⟨w.heap.size+1,k * 2+1,none⟩ (.int .u8 (48+(k:Int) % 10)))):=(f.setCell (p:=⟨w.heap.size+1,k * 2,none⟩) (by show w.heap.size<=w.heap.size+1;omega) _).setCell (p:=⟨w.heap.size+1,k * 2+1,none⟩) (by show w.heap.size<=w.heap.size+1;omega) _;clear b d f n e1 hlen;go_wp2;go_roundw
   case rel=>exact⟨k+1,by omega,by go_num,t.out,r.out,l.out⟩
   case measure=>simp[intOf];omega
  ·have j:k=100:=by omega
   subst j;rw[show cO 100 ++ List.replicate (200 - 2 * 100) (0:Int)=cO 100 by simp] at b
   have c:((cO 100).map (Value.int .u8)).toArray.size=200:=by simp[bX]
   have l:=(show Hid _ from f)
   go_wp2_with (first
    | (refine wpList_load_row rfl 219 (.tmp 1) rfl (w.heap.size+1) rfl 219 _ (0,0) _ b.blk Tryz.underlying219 rfl (by rw[c];kernel_rfl) ?_)
    | (refine wpList_store_row rfl 219 (.tmp 0) (.tmp 18) rfl w.heap.size _ rfl rfl 219 _ d.blk (by rw[c];kernel_rfl) (by rw[c];simp) (by simp[Value.oneCell']) ?_))
   have g:=setRow_heap wr w.heap.size _ ((cO 100).map (Value.int .u8)).toArray _ _ d.blk;refine bodyPost_ret (results_cell_row rfl _ _ w.heap.size 219 _ (0,0) _ rfl g Tryz.underlying219 rfl (by rw[c];kernel_rfl)) rfl ?_
   exact⟨rfl,below_setRow l.out (Nat.le_refl _) _⟩
end
end Go.Proofs.YtgdohcdlkonhiaaGreatDoor
namespace Go.Proofs.YtgdohcdlkonhiaaGreatDoor
open Go.RowKit Lim
section
variable {l:List Int}{w:World}{B n:Nat}{v:Value}{xs:List Value}
def ey:List Int->Int
 | []=>0
 | x :: l=>x+10000000000000000000 * ey l
def fS(l:List Int):Prop:=∀ x∈l,0<=x/\x < 10000000000000000000
theorem lE(a b:List Int):ey (a ++ b)=ey a+10000000000000000000 ^ a.length * ey b:=by
 induction a with
 | nil=>simp[ey]
 | cons x a ih=>simp only[List.cons_append,ey,ih,List.length_cons,Int.pow_succ];grind
theorem iz(h:fS l):0<=ey l:=by
 induction l with
 | nil=>simp[ey]
 | cons x l ih=>have:=h x List.mem_cons_self;have:=ih fun y hy=>h y (List.mem_cons_of_mem _ hy);simp only[ey];omega
def lenOf:Value->Nat | .slice _ n _=>n | _=>0
theorem uq:Tryz.prog.underlying 23=some (.slice 22):=by kernel_rfl
theorem CM{e:TypeId}(h:w.ownsRow B e 1 v n xs):lenOf v=n:=by
 rcases h.2 with⟨rfl,h0⟩ | ⟨g',cap,cur,rfl,_⟩
 ·simp[lenOf,h0]
 ·rfl
theorem eB.wr{b o:Nat}{w':World}(h:eB w B v l)(hw:Wr b o n w w')(hb:b < B):eB w' B v l:=by
 obtain⟨f,a⟩:=h;refine⟨f,?_⟩;rcases a with a | ⟨g,cap,cur,rfl,c,d,e⟩
 ·exact .inl a
 ·exact .inr ⟨g,cap,cur,rfl,c,by rw[hw.block g (by omega)];exact d,e⟩
theorem eB.mono{B':Nat}(h:eB w B v l)(hB:B'<=B):eB w B' v l:=by
 obtain⟨h1,h2⟩:=h;refine⟨h1,?_⟩;rcases h2 with h2 | ⟨g,cap,cur,rfl,hB1,hr⟩
 ·exact .inl h2
 ·exact .inr ⟨g,cap,cur,rfl,by omega,hr⟩
theorem mS{k:Nat}{V R:Int}(h1:10000000000000000000 ^ k * R<=V)(a:1<=R)(b:V < 18446744073709551616 ^ n):k<=2 * n:=by
 by_cases c:k<=2 * n
 ·exact c
 ·have e1:(18446744073709551616:Int) ^ n<=(4294967296 ^ 2) ^ n:=by rw[show (4294967296:Int) ^ 2=18446744073709551616 from rfl]; exact Int.le_refl _
  rw[<- Int.pow_mul] at e1
  have e2:(4294967296:Int) ^ (2 * n)<=4294967296 ^ k:=by
   have:(4294967296:Nat) ^ (2 * n)<=4294967296 ^ k:=Nat.pow_le_pow_right (by decide) (by omega)
   have a1:((4294967296 ^ (2 * n):Nat):Int)=(4294967296:Int) ^ (2 * n):=by rw[Int.natCast_pow];rfl
   have a2:((4294967296 ^ k:Nat):Int)=(4294967296:Int) ^ k:=by rw[Int.natCast_pow];rfl
   omega
  have e3:(4294967296:Int) ^ k<=10000000000000000000 ^ k:=by
   have:(4294967296:Nat) ^ k<=10000000000000000000 ^ k:=Nat.pow_le_pow_left (by omega) _
   have a1:((4294967296 ^ k:Nat):Int)=(4294967296:Int) ^ k:=by rw[Int.natCast_pow];rfl
   have a2:((10000000000000000000 ^ k:Nat):Int)=(10000000000000000000:Int) ^ k:=by rw[Int.natCast_pow];rfl
   omega
  have e4:(10000000000000000000:Int) ^ k * 1<=10000000000000000000 ^ k * R:=Int.mul_le_mul_of_nonneg_left a (Int.le_of_lt (Int.pow_pos (by decide)));omega
theorem kU(ao:Option Addr)(n c b o:Nat)(l:List Int)(w:World)(hl:l.length=n)(hc:n<=c)(ae:n<=1099511627776)(wl:Words l)(ha:At w ao b o l) :
  Calls Tryz.prog 129 #[.slice ao n c] w fun e w'=>∃ v g,e=.returned v/\eB w' w.heap.size v g/\fS g/\ey g=val l/\(g≠[]->0 < nth g (g.length - 1))/\g.length<=2 * n+1/\Below w.heap.size w w':=by
 obtain⟨i0,hi,hz0,ac,M⟩:=info_parts iB;have hV:=dE wl;rw[hl] at hV;go_enter Tryz.func129,Tryz.ntmps129;go_wp2_with fail;refine(jX ao n c b o l w hl hc ae ha).mono ?_
 rintro e w1 ⟨rfl,m,ag⟩;have hn:=aW l;have ad:=aE l;have hI:=cn wl;have E:=m.lt;go_wp2_with fail;go_loopw [3,4] (fun tg tr wr=>∃ (g lr:List Int) (N C:Nat),tr=.slice (some ⟨w.heap.size,0,none⟩) N C/\Hid (N=lr.length)/\N<=C/\N<=n/\Hid (lenOf tg=g.length)/\eB wr (w.heap.size+1) tg g/\fS g/\Words lr/\Hid (aB lr=lr.length)/\Hid (ey g+10000000000000000000 ^ g.length * val lr=val l)/\Hid (g≠[]->val lr=0->0 < nth g (g.length - 1))/\At wr (some ⟨w.heap.size,0,none⟩) w.heap.size 0 lr/\dz wr w.heap.size 0 N/\w.heap.size < wr.heap.size/\Below w.heap.size w wr) (fun tg _ _=>2 * n+2 - lenOf tg)
 case atStart=>exact⟨[],norm l,aB l,aB l,rfl,ad.symm,Nat.le_refl _,by omega,rfl,World.ownsRow_nil _ _ _ _,fun x hx=>by simp at hx,hI.1,hI.2.1,by show _=_;simp[ey,cF],fun h=>absurd rfl h,m.at,m.free _ _,E,ag⟩
 case round =>
  clear m ag ad hI E hn;obtain⟨g,lr,N,C,rfl,hN,af,hNn,aa,D,z,L,T,f,A,ab,P,hsz,Q⟩:=hrel;by_cases hlt:0 < N
  ·go_wp2_with fail;refine(gX (some ⟨w.heap.size,0,none⟩) w.heap.size 0 N C 10000000000000000000 lr wr hN.out.symm (by omega) af (by decide) (by decide) L ab P).mono ?_
   rintro e w2 ⟨left,q,rfl,hf0,hf1,hlz,hwz,F,d,O⟩
   have X:g.length<=2 * n:=by
    have hn0:=hN.out;have hp:=qK L (by have:=T.out;omega);have hg0:=iz z;have hv:=f.out;exact mS (V:=val l) (R:=val lr) (by omega) (by omega) hV
   have r:=D.wr d (by omega)
   have H:w2.ownsRow (w.heap.size+1) 22 1 _ g.length (g.map (Value.int .u64)):=r
   have hsz2:wr.heap.size<=w2.heap.size:=Nat.le_of_eq d.size.symm
   have hsz2':w2.heap.size<=wr.heap.size:=Nat.le_of_eq d.size;generalize hGL:g.length=G at *;have B:=(show Hid _ from hGL)
   clear hGL;go_wp2_with (at_builtin;refine wpList_append_own _ rfl _ _ 23 rfl (w.heap.size+1) 22 i0 (.int .u64 0) 1 8 uq hi hz0 ac M rfl (by decide) _ _ _ rfl (H.alloc _) ⟨w2.heap.size,0,none⟩ 1 1 [.int .u64 left] rfl rfl ?c1 ?c2 ?c3 ?c4 ?c5 ?_)
   case c1=>exact cell_one_new _ _ _
   case c2=>intro u hu;simp at hu;subst hu;rfl
   case c3=>unfold maxLen;omega
   case c4=>omega
   case c5=>simp;omega
   intro v' Y j t _
   have s:Below (w.heap.size+1) w2 Y:=((Below.refl _ _).alloc (by omega) _).grown t (by simp;omega) (uK r);have y:=F.below s (.inr (by omega));have I:=d.free P
   have Z:dz Y w.heap.size 0 N:=fun i hi=>by rw[s.frozen (p:=⟨w.heap.size,0+i,none⟩) (by show w.heap.size < _;omega)];exact I i hi
   have hM:eB Y (w.heap.size+1) v' (g ++ [left]):=by
    unfold eB;rw[List.length_append,B.out,List.map_append];exact j
   have hlv:=CM j;have hsz3:=s.size
   have HB:Below w.heap.size w Y:=(Q.trans (d.below (Nat.le_refl _))).trans (s.mono (by omega));have t3:=aV (some ⟨w.heap.size,0,none⟩) N C q Y hlz af (by omega) y.cells;have ac:=aW q;have M:=aE q;have W:=y.sub (aB q);have hz4:=oP q;have J:=cF q;have hz6:=hwz.norm;rw[show q.take (aB q)=norm q from rfl] at W
   have hvl:0 < val lr:=qK L (by have:=T.out;have:=hN.out;omega)
   have HV:Hid (ey (g ++ [left])+10000000000000000000 ^ (g ++ [left]).length * val (norm q)=val l):=by
    show _=_
    rw[lE,List.length_append,J,<- f.out,<- O,B.out,List.length_singleton,Int.pow_succ];simp only[ey];grind
   have HT:Hid ((g ++ [left])≠[]->val (norm q)=0->0 < nth (g ++ [left]) ((g ++ [left]).length - 1)):=by
    intro _ S;rw[List.length_append,List.length_singleton,Nat.add_sub_cancel,bB (Nat.le_refl _),Nat.sub_self,cy];rw[J] at S;rw[S] at O;omega
   have HL:Hid (lenOf v'=(g ++ [left]).length):=by show _=_;rw[hlv,List.length_append,B.out];rfl
   have HO:fS (g ++ [left]):=by
    intro x hx;rcases List.mem_append.1 hx with e | e
    ·exact z x e
    ·simp at e;subst e;exact⟨hf0,hf1⟩
   clear j t H r D y F d O ab P I f A Q s J;generalize aB q=K at *;generalize norm q=R at *;go_wp2_with fail;refine t3.mono ?_
   rintro e w6 ⟨rfl,rfl⟩;go_wp2;go_roundw
   case rel=>exact⟨g ++ [left],R,K,K,rfl,M.symm,Nat.le_refl _,by omega,HL,hM,HO,hz6,hz4,HV,HT,W,fun i hi=>Z i (by omega),by omega,HB⟩
   case measure =>
    rw[HL.out,aa.out,List.length_append,B.out,List.length_singleton];omega
  ·have hN0:lr=[]:=List.eq_nil_of_length_eq_zero (by have:=hN.out; omega);subst hN0;have hv:=f.out;rw[show val []=0 from rfl,Int.mul_zero,Int.add_zero] at hv;have ht:=fun h=>A.out h rfl
   have X:g.length<=2 * n+1:=by
    have hg0:=iz z;by_cases S:g=[]
    ·subst S;simp
    ·have hne:g.length≠0:=fun e=>S (List.eq_nil_of_length_eq_zero e)
     have hlast:=ht S
     have hsp:g=g.take (g.length - 1) ++ [nth g (g.length - 1)]:=by
      rw[<- dX (by omega),show g.length - 1+1=g.length from by omega,List.take_of_length_le (Nat.le_refl _)]
     have hgv:ey g=ey (g.take (g.length - 1))+10000000000000000000 ^ (g.length - 1) * nth g (g.length - 1):=by
      conv=>lhs;rw[hsp]
      rw[lE,List.length_take,Nat.min_eq_left (by omega)];simp[ey]
     have h3:=iz (l:=g.take (g.length - 1)) (fun x hx=>z x (List.mem_of_mem_take hx));have:=mS (V:=val l) (R:=nth g (g.length - 1)) (k:=g.length - 1) (by omega) (by omega) hV;omega
   have U:eB wr w.heap.size _ g:=D.mono (by omega);clear f A aa D hN;have HV:=(show Hid _ from hv)
   clear hv;go_wp2;go_ret;exact⟨_,g,rfl,U,z,HV.out,ht,X,Q⟩
end
end Go.Proofs.YtgdohcdlkonhiaaGreatDoor
namespace Go.Proofs.YtgdohcdlkonhiaaGreatDoor
open Go.RowKit Lim
section
variable {g l:List Int}{w:World}{v:Value}
def rU(u:Int)(wx:World):Prop:=Calls Tryz.prog 130 #[.slice none 0 0,.int .u64 u,.int .i64 10] wx fun e w'=>∃ v d,e=.returned v/\fN w' wx.heap.size v d/\fY d/\dvI d=u/\0 < d.length/\d.length<=20/\nth d 0≠48/\Below wx.heap.size wx w'
theorem j0:Tryz.prog.underlying 9=some .string:=by kernel_rfl
theorem rV:Tryz.prog.underlying 5=some (.int .u8):=by kernel_rfl
theorem oR(d:List Int):∀ r:ByteArray,(d.foldl (fun r n=>r.push (UInt8.ofNat n.toNat)) r).data.toList=r.data.toList ++ d.map (fun n=>UInt8.ofNat n.toNat):=by
 induction d with
 | nil=>intro r;simp
 | cons c d ih=>intro r;rw[List.foldl_cons,ih];simp
theorem oI{i:Nat}(h:i < g.length):ey (g.drop i)=nth g i+10000000000000000000 * ey (g.drop (i+1)):=by
 rw[List.drop_eq_getElem_cons h,ey,bS h]
theorem fN.open{B:Nat}(h:fN w B v l)(d:0 < l.length):∃ g c,v=.slice (some ⟨g,0,none⟩) l.length c/\l.length<=c/\B<=g/\AtB w (some ⟨g,0,none⟩) g 0 l/\dz w g 0 l.length:=by
 obtain⟨_,a⟩:=h;rcases a with⟨rfl,h0⟩ | ⟨g,cap,cur,rfl,hB,hh,hle,hmx,hsz,htk⟩
 ·omega
 ·refine⟨g,cap,rfl,hle,hB,⟨.inr rfl,fun i hi=>?_⟩,fun i hi=>?_⟩
  ·have e:cur.toList[i]?=some (.int .u8 (nth l i)):=by
    have b:(cur.toList.take (l.length * 1))[i]?=some (.int .u8 (nth l i)):=by
     rw[htk,List.getElem?_map,List.getElem?_eq_getElem hi,bS hi];rfl
    rwa [Nat.mul_one,List.getElem?_take_of_lt hi] at b
   simp only[World.cell?,hh];simpa using e
  ·simp[World.frozen?,hh]
structure qo(s:ByteArray)(n:Int):Prop where
 bytes:∃ d:List Int,s.data.toList.map (fun c=>(c.toNat:Int))=d/\fY d/\dvI d=n/\0 < d.length/\(d.length=1\/nth d 0≠48)
theorem zQ(ao:Option Addr)(n c b o:Nat)(l:List Int)(w:World)(hl:l.length=n)(hc:n<=c)(hbig:n<=4294967296)(wl:Words l)(ha:At w ao b o l)(I:∀ g,fS g->ey g=val l->g≠[]->0 < nth g (g.length - 1)->∀ wx,Below w.heap.size w wx->rU (nth g (g.length - 1)) wx) :
  Calls Tryz.prog 71 #[.slice ao n c] w fun e w'=>∃ s,e=.returned (.string s)/\qo s (val l)/\s.size<=40 * n+40/\Below w.heap.size w w':=by
 go_enter Tryz.func71,Tryz.ntmps71;go_wp2_with fail;refine(kU ao n c b o l w hl hc (by omega) wl ha).mono ?_
 rintro e w1 ⟨v,g,rfl,hmg,hgo,y,K,hgl,C⟩;obtain⟨ag,cg,rfl,hgc,_,bg,W,hBg,t,_⟩:=hmg.open;have Y:=C.size;by_cases p:g=[]
 ·subst p
  have hv0:val l=0:=by rw[<- y];rfl
  have HV0:=(show Hid _ from hv0)
  clear y hv0;go_wp2;go_ret;refine⟨_,rfl,⟨[48],rfl,fun c hc=>by rw[List.mem_singleton] at hc;subst hc;decide,by rw[HV0.out];rfl,by simp,.inl rfl⟩,?_,C⟩
  show 1<=_;omega
 ·have hgp:0 < g.length:=Nat.pos_of_ne_zero fun e=>p (List.eq_nil_of_length_eq_zero e)
  rcases W with e | rfl
  ·exact absurd e p
  have tA:=I g hgo y p (K p);have HGV:=(show Hid _ from y)
  have i:=t.cell (g.length - 1) (by omega);rw[Nat.zero_add] at i;obtain⟨m,hm⟩:∃ m,g.length=m+1:=⟨g.length - 1,by omega⟩
  rw[hm,Nat.add_sub_cancel] at i tA;have O:=(show Hid _ from hm)
  rw[hm]
  have hu0:(m:Int) < (m:Int)+1:=by omega
  clear y K I hm hgc
  have hmg1:m+1<=2 * n+1:=by have:=O.out;omega
  generalize hU:nth g m=U at *;have HU:=(show Hid _ from hU)
  clear hU;go_wp2_with fail;have tB:=tA w1 C;unfold rU at tB;clear tA;refine tB.mono ?_
  rintro e w2 ⟨v2,d0,rfl,X,Z,E,G,hd21,J,A⟩;have hsz2:=A.size;have V:=t.keep A;go_wp2_with fail;go_loopw [5,21] (fun tt ti wr=>∃ (k:Nat) (d:List Int),k<=m/\ti=.int .i64 k/\fN wr w1.heap.size tt d/\fY d/\Hid (dvI d=ey (g.drop (m - k)))/\0 < d.length/\d.length<=20+19 * k/\nth d 0≠48/\Below w1.heap.size w1 wr) (fun _ ti _=>m - (intOf ti).toNat)
  case atStart=>exact⟨0,d0,Nat.zero_le _,rfl,X,Z,by show _=_;rw[E,Nat.sub_zero,oI (by have:=O.out;omega),List.drop_of_length_le (by have:=O.out;omega),HU.out];simp[ey],G,by omega,J,A⟩
  case round =>
   clear X Z E G hd21 J A V;obtain⟨k,d,hk,rfl,R,N,B,z,hdl1,F,D⟩:=hrel;by_cases hlt:k < m
   ·obtain⟨h,hh⟩:∃ h:Nat,(m:Int) - 1 - k=h:=⟨m - 1 - k,by omega⟩
    have hh1:(h:Int) < (m:Int)+1:=by omega
    have hhm:m - k=h+1:=by omega
    have H:=t.below (D.mono (Nat.le_refl _)) (.inr (aF i));have hcw:=H.cell h (by have:=O.out;omega);rw[Nat.zero_add] at hcw;have Q:=hgo (nth g h) (l8 (by have:=O.out;omega));have HD:=B.out;rw[hhm] at HD
    have HD:Hid (dvI d=ey (g.drop (h+1))):=HD
    have HG:Hid (ey (g.drop (m - (k+1)))=nth g h+10000000000000000000 * ey (g.drop (h+1))):=by
     show _=_
     rw[show m - (k+1)=h from by omega,oI (by have:=O.out;omega)]
    have HX:Hid (nth g h=nth g h):=rfl;generalize nth g h=x at *;clear H B;go_wp2_with (go_at_call 131;refine(lQ w1.heap.size _ d x _ D.size R (by omega) Q.1 Q.2).mono ?_;rintro e w5 ⟨v5,q,rfl,hm5,hq5,hql,hqv,hb5⟩);go_roundw
    case rel =>
     refine⟨k+1,d ++ q,by omega,by go_num,hm5,?_,?_,by simp;omega,by simp;omega,?_,D.trans hb5⟩
     ·intro c hc;rcases List.mem_append.1 hc with e | e
      ·exact N c e
      ·exact hq5 c e
     ·show _=_
      rw[fX,hql,hqv,HD.out,HG.out,show (10:Int) ^ 19=10000000000000000000 from rfl];grind
     ·rw[cV z];exact F
    case measure=>simp[intOf];omega
   ·have hkm:k=m:=by omega
    subst hkm;rw[Nat.sub_self,List.drop_zero] at B;obtain⟨gb,cb,rfl,hdc,hgb,hatd,_⟩:=R.open z
    have f:=run_loadCells_list (P:=Tryz.prog) wr ⟨gb,0,none⟩ (d.map (Value.int .u8)) (fun j u hu=>by
     rw[List.getElem?_map] at hu
     have M:j < d.length:=by
      rcases Nat.lt_or_ge j d.length with M | M
      ·exact M
      ·rw[List.getElem?_eq_none M] at hu;simp at hu
     rw[List.getElem?_eq_getElem M] at hu;simp at hu;subst hu;have:=hatd.cell j M;rw[bS M] at this;rw[<- this];by_cases T:j=0
     ·subst T;exact congrArg wr.cell? (by simp[Addr.add])
     ·exact congrArg wr.cell? (by simp[Addr.add,T]))
    rw[List.length_map] at f;have L:=(run_convert_bytes_string (P:=Tryz.prog) wr 42 9 5 (some ⟨gb,0,none⟩) d.length cb cE rV j0).trans (run_bytesToString wr ⟨gb,0,none⟩ d.length cb d f);obtain⟨S,hS⟩:∃ S,d.foldl (fun r n=>r.push (UInt8.ofNat n.toNat)) ByteArray.empty=S:=⟨_,rfl⟩
    rw[hS] at L;have HS:=(show Hid _ from hS)
    clear hS f
    have HB:Below w.heap.size w wr:=C.trans (D.mono Y);go_wp2;go_ret;have e1:=oR d ByteArray.empty;rw[HS.out] at e1
    have e2:S.data.toList.map (fun c=>(c.toNat:Int))=d:=by
     rw[e1];simp only[show ByteArray.empty.data.toList=[] from rfl,List.nil_append,List.map_map]
     conv=>rhs;rw[<- List.map_id d]
     apply List.map_congr_left;intro c hc;have:=N c hc;simp[Function.comp,UInt8.toNat_ofNat'];omega
    refine⟨S,rfl,⟨d,e2,N,by rw[B.out,HGV.out],z,.inr F⟩,?_,HB⟩;have:S.size=d.length:=by rw[<- e2];simp
    omega
end
end Go.Proofs.YtgdohcdlkonhiaaGreatDoor
namespace Go.Proofs
open Go.Shelf
def Tryz.rQ:Go.Shelf.Ren:=⟨fun | 162=>73 | 232=>133 | 227=>134 | 234=>135 | 236=>136 | 228=>201 | 271=>202 | 151=>203 | 120=>257 | 197=>258 | 152=>259 | 260=>299 | 137=>300 | 119=>301 | 224=>302 | 225=>303 | 217=>320 | 266=>330 | n=>n,fun | 9=>9 | 4=>4 | 3=>3 | 5=>5 | 117=>214 | 116=>213 | 0=>0 | 124=>217 | 21=>21 | 105=>283 | 46=>242 | 119=>166 | 139=>382 | 138=>381 | n=>n,fun | 3=>4 | 4=>5 | n=>n⟩
theorem Tryz.Cj:Go.Proofs.Lays.n162 Tryz.prog Tryz.rQ:={
 mixed:=by kernel_rfl
 f119:=Tryz.func301.trans (congrArg some (by kernel_rfl))
 f120:=Tryz.func257.trans (congrArg some (by kernel_rfl))
 f137:=Tryz.func300.trans (congrArg some (by kernel_rfl))
 f151:=Tryz.func203.trans (congrArg some (by kernel_rfl))
 f152:=Tryz.func259.trans (congrArg some (by kernel_rfl))
 f162:=Tryz.func73.trans (congrArg some (by kernel_rfl))
 f197:=Tryz.func258.trans (congrArg some (by kernel_rfl))
 f217:=Tryz.func320.trans (congrArg some (by kernel_rfl))
 f224:=Tryz.func302.trans (congrArg some (by kernel_rfl))
 f225:=Tryz.func303.trans (congrArg some (by kernel_rfl))
 f227:=Tryz.func134.trans (congrArg some (by kernel_rfl))
 f228:=Tryz.func201.trans (congrArg some (by kernel_rfl))
 f232:=Tryz.func133.trans (congrArg some (by kernel_rfl))
 f234:=Tryz.func135.trans (congrArg some (by kernel_rfl))
 f236:=Tryz.func136.trans (congrArg some (by kernel_rfl))
 f260:=Tryz.func299.trans (congrArg some (by kernel_rfl))
 f266:=Tryz.func330.trans (congrArg some (by kernel_rfl))
 f271:=Tryz.func202.trans (congrArg some (by kernel_rfl))
 t0:=Tryz.underlying0
 a0:=Tryz.isAgg0
 z0:=Tryz.sizeOf0
 v0:=Tryz.zeroValue0
 t3:=Tryz.underlying3
 a3:=Tryz.isAgg3
 z3:=Tryz.sizeOf3
 v3:=Tryz.zeroValue3
 t4:=Tryz.underlying4
 a4:=Tryz.isAgg4
 z4:=Tryz.sizeOf4
 v4:=Tryz.zeroValue4
 t5:=Tryz.underlying5
 a5:=Tryz.isAgg5
 z5:=Tryz.sizeOf5
 v5:=Tryz.zeroValue5
 t9:=Tryz.underlying9
 a9:=Tryz.isAgg9
 z9:=Tryz.sizeOf9
 v9:=Tryz.zeroValue9
 t21:=Tryz.underlying21
 a21:=Tryz.isAgg21
 z21:=Tryz.sizeOf21
 v21:=Tryz.zeroValue21
 t46:=Tryz.underlying242
 a46:=Tryz.isAgg242
 z46:=Tryz.sizeOf242
 v46:=Tryz.zeroValue242
 t105:=Tryz.underlying283
 a105:=Tryz.isAgg283
 z105:=Tryz.sizeOf283
 v105:=Tryz.zeroValue283
 t116:=Tryz.underlying213
 a116:=Tryz.isAgg213
 z116:=Tryz.sizeOf213
 t117:=Tryz.underlying214
 a117:=Tryz.isAgg214
 z117:=Tryz.sizeOf214
 v117:=Tryz.zeroValue214
 t119:=Tryz.underlying166
 a119:=Tryz.isAgg166
 z119:=Tryz.sizeOf166
 t124:=Tryz.underlying217
 a124:=Tryz.isAgg217
 z124:=Tryz.sizeOf217
 v124:=Tryz.zeroValue217
 t138:=Tryz.underlying381
 a138:=Tryz.isAgg381
 z138:=Tryz.sizeOf381
 v138:=Tryz.zeroValue381
 t139:=Tryz.underlying382
 a139:=Tryz.isAgg382
 z139:=Tryz.sizeOf382
 v139:=Tryz.zeroValue382
 g3:=by kernel_rfl
 g4:=by kernel_rfl }
open Go.RowKit in
theorem Tryz.strings_TrimRight_one (s:ByteArray) (c:UInt8) (hc:c.toNat < 128) (w:World) (a:s.size<=9223372036854775807) :
  Calls Tryz.prog 73 #[.string s,.string ⟨#[c]⟩] w fun e w'=>e=.returned (.string ⟨(Lib.trimRightB s.data.toList c).toArray⟩)/\w'=w:=Any.strings_TrimRight_one Tryz.Cj s c hc w a
def Tryz.pP:Go.Shelf.Ren:=⟨fun | 288=>199 | 283=>253 | 284=>254 | 285=>255 | 286=>256 | 129=>251 | 317=>295 | 318=>296 | 319=>297 | 320=>298 | 337=>318 | 338=>319 | n=>n,fun | 37=>42 | 53=>22 | 3=>3 | 4=>4 | 9=>9 | 171=>327 | 0=>0 | 173=>329 | 212=>359 | 51=>360 | 5=>5 | 20=>20 | 213=>361 | 46=>242 | 232=>391 | 233=>392 | n=>n,fun | 17=>2 | 18=>6 | 19=>7 | n=>n⟩
theorem Tryz.yP:Go.Proofs.LaysM.n288 Tryz.prog Tryz.pP:={
 mixed:=by kernel_rfl
 f129:=Tryz.func251.trans (congrArg some (by kernel_rfl))
 f283:=Tryz.func253.trans (congrArg some (by kernel_rfl))
 f284:=Tryz.func254.trans (congrArg some (by kernel_rfl))
 f285:=Tryz.func255.trans (congrArg some (by kernel_rfl))
 f286:=Tryz.func256.trans (congrArg some (by kernel_rfl))
 f288:=Tryz.func199.trans (congrArg some (by kernel_rfl))
 f317:=Tryz.func295.trans (congrArg some (by kernel_rfl))
 f318:=Tryz.func296.trans (congrArg some (by kernel_rfl))
 f319:=Tryz.func297.trans (congrArg some (by kernel_rfl))
 f320:=Tryz.func298.trans (congrArg some (by kernel_rfl))
 f337:=Tryz.func318.trans (congrArg some (by kernel_rfl))
 f338:=Tryz.func319.trans (congrArg some (by kernel_rfl))
 t0:=Tryz.underlying0
 a0:=Tryz.isAgg0
 z0:=Tryz.sizeOf0
 v0:=Tryz.zeroValue0
 t3:=Tryz.underlying3
 a3:=Tryz.isAgg3
 z3:=Tryz.sizeOf3
 v3:=Tryz.zeroValue3
 t4:=Tryz.underlying4
 a4:=Tryz.isAgg4
 z4:=Tryz.sizeOf4
 v4:=Tryz.zeroValue4
 t5:=Tryz.underlying5
 a5:=Tryz.isAgg5
 z5:=Tryz.sizeOf5
 v5:=Tryz.zeroValue5
 t9:=Tryz.underlying9
 a9:=Tryz.isAgg9
 z9:=Tryz.sizeOf9
 v9:=Tryz.zeroValue9
 t20:=Tryz.underlying20
 a20:=Tryz.isAgg20
 z20:=Tryz.sizeOf20
 v20:=Tryz.zeroValue20
 t37:=Tryz.underlying42
 a37:=Tryz.isAgg42
 z37:=Tryz.sizeOf42
 v37:=Tryz.zeroValue42
 t46:=Tryz.underlying242
 a46:=Tryz.isAgg242
 z46:=Tryz.sizeOf242
 v46:=Tryz.zeroValue242
 t51:=Tryz.underlying360
 a51:=Tryz.isAgg360
 z51:=Tryz.sizeOf360
 v51:=Tryz.zeroValue360
 t53:=Tryz.underlying22
 a53:=Tryz.isAgg22
 z53:=Tryz.sizeOf22
 v53:=Tryz.zeroValue22
 t171:=Tryz.underlying327
 a171:=Tryz.isAgg327
 z171:=Tryz.sizeOf327
 v171:=Tryz.zeroValue327
 t173:=Tryz.underlying329
 a173:=Tryz.isAgg329
 z173:=Tryz.sizeOf329
 v173:=Tryz.zeroValue329
 t212:=Tryz.underlying359
 a212:=Tryz.isAgg359
 z212:=Tryz.sizeOf359
 v212:=Tryz.zeroValue359
 t213:=Tryz.underlying361
 a213:=Tryz.isAgg361
 z213:=Tryz.sizeOf361
 t232:=Tryz.underlying391
 a232:=Tryz.isAgg391
 z232:=Tryz.sizeOf391
 v232:=Tryz.zeroValue391
 t233:=Tryz.underlying392
 a233:=Tryz.isAgg392
 z233:=Tryz.sizeOf392
 v233:=Tryz.zeroValue392
 g17:=by kernel_rfl
 g18:=by kernel_rfl
 g19:=by kernel_rfl
 i0:=by kernel_rfl
 i3:=by kernel_rfl
 i4:=by kernel_rfl
 i5:=by kernel_rfl
 i9:=by kernel_rfl
 i20:=by kernel_rfl
 i37:=by kernel_rfl
 i46:=by kernel_rfl
 i51:=by kernel_rfl
 i53:=by kernel_rfl
 i171:=by kernel_rfl
 i173:=by kernel_rfl
 i212:=by kernel_rfl
 i232:=by kernel_rfl
 i233:=by kernel_rfl
 m17:=by kernel_rfl
 m18:=by kernel_rfl
 m19:=by kernel_rfl }
open Go.RowKit Go.Sort Go.Lib in
theorem Tryz.internal_strconv_AppendUint_10_small (B n u:Nat) (hu:u < 100) (d:Value) (xs:List Value) (w:World) (a:w.ownsRow B 5 1 d n xs) (c:B<=w.heap.size) (b:n+20<=140737488355328) :
  Calls Tryz.prog 199 #[d,.int .u64 u,.int .i64 10] w fun e w'=>∃ v',e=.returned v'/\w'.ownsRow B 5 1 v' (n+(Lib.decDigits u).length) (xs ++ Lib.byteCells (Lib.decDigits u))/\Below B w w'/\Lib.OthersKept 5 none w w':=Any.internal_strconv_AppendUint_10_small Tryz.yP B n u hu d xs w a c b
end Go.Proofs
namespace Go.Proofs.YtgdohcdlkonhiaaGreatDoor
open Go.RowKit Lim
section
variable {u:Nat}{e:Ending}
theorem r7{n:Nat}(h:n < 256):(UInt8.ofNat n).toNat=n:=by simp[Nat.mod_eq_of_lt h]
theorem DO(u:Nat):fY ((Lib.decDigits u).map fun c=>(c.toNat:Int))/\dvI ((Lib.decDigits u).map fun c=>(c.toNat:Int))=u/\0 < (Lib.decDigits u).length/\(0 < u->nth ((Lib.decDigits u).map fun c=>(c.toNat:Int)) 0≠48):=by
 induction u using Nat.strongRecOn with
 | ind u ih =>
  by_cases h:u < 10
  ·rw[Lib.decDigits,dif_pos h]
   have e:(UInt8.ofNat (48+u)).toNat=48+u:=r7 (by omega);simp only[List.map_cons,List.map_nil,e];refine⟨fun c hc=>?_,?_,by simp,fun a=>?_⟩
   ·rw[List.mem_singleton] at hc;omega
   ·simp[dvI];omega
   ·rw[cy];omega
  ·rw[Lib.decDigits,dif_neg h];obtain⟨i1,i2,i3,i4⟩:=ih (u / 10) (by omega)
   have e:(UInt8.ofNat (48+u % 10)).toNat=48+u % 10:=r7 (by omega);simp only[List.map_append,List.map_cons,List.map_nil,e];refine⟨i1.snoc (by omega) (by omega),?_,by simp,fun _=>?_⟩
   ·rw[nh,i2];omega
   ·rw[cV (by simpa using i3)];exact i4 (by omega)
theorem mK(l:List UInt8):Lib.byteCells l=(l.map fun c=>(c.toNat:Int)).map (Value.int .u8):=by
 simp[Lib.byteCells]
theorem AY{a w':World}(g:0 < u)(b:(Lib.decDigits u).length<=20)(h:∃ v',e=.returned v'/\w'.ownsRow a.heap.size 5 1 v' (0+(Lib.decDigits u).length) ([] ++ Lib.byteCells (Lib.decDigits u))/\Below a.heap.size a w'/\Lib.OthersKept 5 none a w') :
  ∃ v d,e=.returned v/\fN w' a.heap.size v d/\fY d/\dvI d=(u:Int)/\0 < d.length/\d.length<=20/\nth d 0≠48/\Below a.heap.size a w':=by
 obtain⟨v,rfl,c,f,_⟩:=h;obtain⟨d1,d2,d3,d4⟩:=DO u;refine⟨v,_,rfl,?_,d1,d2,by simpa using d3,by simpa using b,d4 g,f⟩;unfold fN;rw[<- mK,List.length_map];rw[Nat.zero_add,List.nil_append] at c;exact c
theorem dec20(h:u < 18446744073709551616):(Lib.decDigits u).length<=20:=by
 by_cases a:u=0
 ·subst a;rw[Lib.decDigits_one (by decide)];simp
 ·have:=Lib.numDigits_eq u (by omega) h;rw[Lib.decDigits_length];split at this<;>omega
theorem wh(u:Nat)(f:0 < u)(h1:u < 100)(c:World):rU (u:Int) c:=by
 unfold rU
 have b:c.ownsRow c.heap.size 5 1 (.slice none 0 0) 0 []:=World.ownsRow_nil _ _ _ _;have t:=Tryz.internal_strconv_AppendUint_10_small c.heap.size 0 u h1 (.slice none 0 0) [] c b (Nat.le_refl _) (by decide);go_enter Tryz.func130,Tryz.ntmps130;go_wp2_with fail;refine t.mono ?_
 intro e i h;have g:=AY f (dec20 (by omega)) h;obtain⟨v,d,rfl,r⟩:=g;go_wp2;go_ret;exact⟨v,d,rfl,r⟩
end
end Go.Proofs.YtgdohcdlkonhiaaGreatDoor
namespace Go.Proofs.YtgdohcdlkonhiaaGreatDoor
open Go.RowKit Lim
section
variable {k:Nat}{x:Int}
def df:Nat->Int->List Int
 | 0,_=>[]
 | k+1,x=>df k (x / 10) ++ [48+x % 10]
theorem dK(k:Nat)(x:Int):(df k x).length=k:=by
 induction k generalizing x with
 | zero=>rfl
 | succ k ih=>simp[df,ih]
theorem mY(h:0<=x):fY (df k x):=by
 induction k generalizing x with
 | zero=>intro c hc;simp[df] at hc
 | succ k ih=>exact(ih (by omega)).snoc (by omega) (by omega)
theorem rY(h:0<=x):dvI (df k x)=x % 10 ^ k:=by
 induction k generalizing x with
 | zero=>simp[df,dvI]
 | succ k ih =>
  rw[df,nh,ih (by omega),Int.pow_succ]
  have d:(0:Int) < 10 ^ k:=Int.pow_pos (by decide);have e1:=Int.mul_ediv_add_emod (x / 10) (10 ^ k);have e2:=Int.mul_ediv_add_emod x 10;have e3:=Int.emod_nonneg (x / 10) (show (10:Int) ^ k≠0 by omega);have e4:=Int.emod_lt_of_pos (x / 10) d;generalize x / 10 % 10 ^ k=r at *;generalize hq:x / 10 / 10 ^ k=q at *;generalize (10:Int) ^ k=P at *
  have c:x=(10 * r+x % 10)+(P * 10) * q:=by
   have:10 * (P * q+r)+x % 10=x:=by rw[e1];omega
   rw[<- this];rw[Int.mul_add];have:10 * (P * q)=P * 10 * q:=by rw[<- Int.mul_assoc,Int.mul_comm 10 P]
   omega
  conv=>rhs;rw[c]
  rw[Int.add_mul_emod_self_left,Int.emod_eq_of_lt (a:=10 * r+x % 10) (b:=P * 10) (by omega) (by omega)];omega
theorem mw(k m:Nat)(x:Int)(h:0<=x):df (k+m) x=df k (x / 10 ^ m) ++ df m x:=by
 induction m generalizing x with
 | zero=>simp[df]
 | succ m ih =>
  rw[Nat.add_succ,df,ih _ (by omega),df,List.append_assoc];congr 2
  rw[Int.pow_succ,Int.mul_comm,<- Int.ediv_ediv_of_nonneg (by decide)]
theorem AF(k:Nat)(x:Int):df (k+2) x=df k (x / 100) ++ [48+x % 100 / 10,48+x % 100 % 10]:=by
 rw[df,df,List.append_assoc]
 have e1:x / 10 / 10=x / 100:=by omega
 have e2:x / 10 % 10=x % 100 / 10:=by omega
 have e3:x % 10=x % 100 % 10:=by omega
 rw[e1,e2,e3];rfl
end
end Go.Proofs.YtgdohcdlkonhiaaGreatDoor
namespace Go.Proofs.YtgdohcdlkonhiaaGreatDoor
open Go.RowKit Lim
section
variable {l:List Int}
theorem iZ(h:fY l):0<=dvI l/\dvI l < 10 ^ l.length:=by
 induction l with
 | nil=>simp[dvI]
 | cons c l ih =>
  have hc:=h c (by simp);have:=ih fun x hx=>h x (by simp[hx])
  have e:dvI (c :: l)=(c - 48) * 10 ^ l.length+dvI l:=by rw[show c :: l=[c] ++ l from rfl,fX];simp[dvI]
  have a:(0:Int) < 10 ^ l.length:=Int.pow_pos (by decide)
  have d:0<=(c - 48) * 10 ^ l.length:=Int.mul_nonneg (by omega) (Int.le_of_lt a)
  have b:(c - 48) * 10 ^ l.length<=9 * 10 ^ l.length:=Int.mul_le_mul_of_nonneg_right (by omega) (Int.le_of_lt a);rw[e,List.length_cons,Int.pow_succ];omega
theorem dvI_ge(h:fY l)(a:0 < l.length)(h1:nth l 0≠48):10 ^ (l.length - 1)<=dvI l:=by
 cases l with
 | nil=>simp at a
 | cons c l =>
  rw[cy] at h1;have hc:=h c (by simp);have hb:=iZ (l:=l) fun x hx=>h x (by simp[hx])
  have e:dvI (c :: l)=(c - 48) * 10 ^ l.length+dvI l:=by rw[show c :: l=[c] ++ l from rfl,fX];simp[dvI]
  have b:(0:Int) < 10 ^ l.length:=Int.pow_pos (by decide);have:1 * 10 ^ l.length<=(c - 48) * 10 ^ l.length:=Int.mul_le_mul_of_nonneg_right (by omega) (Int.le_of_lt b);rw[e,List.length_cons,Nat.add_sub_cancel];omega
theorem pW:∀ {a b:List Int},fY a->fY b->a.length=b.length->dvI a=dvI b->a=b
 | [],[],_,_,_,_=>rfl
 | x :: a,y :: b,ha,hb,hl,hv=>by
  have ha':fY a:=fun z g=>ha z (by simp[g])
  have f:fY b:=fun z g=>hb z (by simp[g])
  have d:a.length=b.length:=by simpa using hl
  have i:=iZ ha';have j:=iZ f
  have e1:dvI (x :: a)=(x - 48) * 10 ^ b.length+dvI a:=by rw[show x :: a=[x] ++ a from rfl,fX,d];simp[dvI]
  have e2:dvI (y :: b)=(y - 48) * 10 ^ b.length+dvI b:=by rw[show y :: b=[y] ++ b from rfl,fX];simp[dvI]
  rw[e1,e2] at hv;rw[d] at i
  have h:(0:Int) < 10 ^ b.length:=Int.pow_pos (by decide)
  have e:x=y:=by
   rcases Int.lt_trichotomy x y with c | c | c
   ·have:(x - 48+1) * 10 ^ b.length<=(y - 48) * 10 ^ b.length:=Int.mul_le_mul_of_nonneg_right (by omega) (Int.le_of_lt h);rw[Int.add_mul] at this;omega
   ·exact c
   ·have:(y - 48+1) * 10 ^ b.length<=(x - 48) * 10 ^ b.length:=Int.mul_le_mul_of_nonneg_right (by omega) (Int.le_of_lt h);rw[Int.add_mul] at this;omega
  subst e;rw[pW ha' f d (by omega)]
theorem um{a b:List Int}(c:fY a)(hb:fY b)(d:0 < a.length)(h1:0 < b.length)(f:a.length=1\/nth a 0≠48)(kb:b.length=1\/nth b 0≠48)(hv:dvI a=dvI b):a=b:=by
 apply pW c hb _ hv
 have key:∀ {a b:List Int},fY a->fY b->0 < a.length->0 < b.length->(b.length=1\/nth b 0≠48)->dvI a=dvI b->¬ a.length < b.length:=by
  intro a b c hb d h1 kb hv g;have h:=(iZ c).2;rcases kb with e | e
  ·omega
  ·have i:=dvI_ge hb h1 e;have:=yK (show a.length<=b.length - 1 by omega);omega
 have k1:=key c hb d h1 kb hv;have k2:=key hb c h1 d f hv.symm;omega
theorem BQ{S:ByteArray}{n:Int}(h:qo S n)(l:List UInt8)(k:(l.map (fun c=>(c.toNat:Int))).all (fun c=>decide (48<=c/\c<=57))=true)(hv:dvI (l.map (fun c=>(c.toNat:Int)))=n)(p:0 < l.length)(h1:l.length=1\/nth (l.map (fun c=>(c.toNat:Int))) 0≠48):S=⟨l.toArray⟩:=by
 obtain⟨d,e,f,i,j,g⟩:=h.bytes
 have q:fY (l.map (fun c=>(c.toNat:Int))):=fun c hc=>by
  rw[List.all_eq_true] at k;simpa using k c hc
 have:=um f q j (by simpa using p) g (by simpa using h1) (i.trans hv.symm);rw[<- e] at this
 have m:S.data.toList=l:=List.map_inj_right (fun a b o=>UInt8.toNat_inj.1 (by omega)) |>.1 this
 cases S with
 | mk arr=>simp at m;simp[<- m]
end
end Go.Proofs.YtgdohcdlkonhiaaGreatDoor
namespace Go.Proofs.YtgdohcdlkonhiaaGreatDoor
open Go.RowKit Lim
section
variable {w w':World}{ao:Option Addr}{n c X g:Nat}{x:Int}{l d:List Int}{ops:Array Oper}{K:Act->World->Prop}
theorem nSmall(h:ed w ao n c x)(hn:n<=1099511627776)(hx:x < 18446744073709551616) :
  Calls Tryz.prog 81 #[.slice ao n c] w fun e w'=>e=.returned (.tuple #[.int .u64 x,.bool true])/\Below w.heap.size w w':=by
 obtain⟨b,o,l,i,m,f,g⟩:=h.ex
 have d:aB l=n:=f.2.1.trans i
 have p:n<=1:=by
  rcases Nat.lt_or_ge 1 n with e | e
  ·have q:=eE f.1 (by omega);have s:=fO (show 1<=aB l - 1 by omega);rw[f.2.2] at q
   have r:(18446744073709551616:Int) ^ 1=18446744073709551616:=by decide
   omega
  ·exact e
 have t:=aV ao n c l w i m (by omega) g.cells;rw[d] at t;have hv:=f.2.2;rcases(show n=0\/n=1 by omega) with e | e
 ·subst e;obtain rfl:l=[]:=List.eq_nil_of_length_eq_zero i
  have j:x=0:=by rw[<- hv];rfl
  subst j;clear hv d;go_enter Tryz.func81,Tryz.ntmps81;go_wp2_with fail;refine t.mono ?_
  rintro e w' ⟨rfl,rfl⟩;go_wp2;go_ret2;exact⟨rfl,Below.refl _ _⟩
 ·subst e;obtain⟨y,rfl⟩:∃ y,l=[y]:=by
   match l,i with
   | [y],_=>exact⟨y,rfl⟩
  have hy:y=x:=by rw[<- hv];simp[val]
  subst hy;have hc:=g.cell 0 (by simp);obtain rfl:ao=some ⟨b,o,none⟩:=by
   rcases g.loc with e | e
   ·simp at e
   ·exact e
  rw[cy,Nat.add_zero] at hc;clear hv d g f;go_enter Tryz.func81,Tryz.ntmps81;go_wp2_with fail;refine t.mono ?_
  rintro e w' ⟨rfl,rfl⟩;go_wp2;go_ret2;exact⟨rfl,Below.refl _ _⟩
theorem DD(i:Nat)(h:i < 100):∀ j v,[Value.int .u8 (48+(i:Int) / 10),Value.int .u8 (48+(i:Int) % 10)][j]?=some v->∀ (w:World) (gp:Nat),dt w gp 219 (cO 100)->w.cell? ((⟨gp,i * 2,none⟩:Addr).add j)=some v:=by
 intro j v a w gp R;have c:=bX 100;obtain⟨b,p1⟩:=wW h
 match j,a with
 | 0,a =>
  simp at a;subst a;have:=R.cell (i:=2 * i) (by omega);rw[b] at this;rw[<- this];exact congrArg w.cell? (by simp[Addr.add,Nat.mul_comm])
 | 1,a =>
  simp at a;subst a;have:=R.cell (i:=2 * i+1) (by omega);rw[p1] at this;rw[<- this];exact congrArg w.cell? (by simp[Addr.add,Nat.mul_comm])
 | j+2,a=>simp at a
theorem DG(g E:Nat)(h:E<=34)(W:World):(Instr.sliceAt 218 (.pointer (some ⟨g,0,none⟩)) (some (.int .i64 (E:Int))) none none).run Tryz.prog W=.ok (.slice (some ⟨g,E,none⟩) (36 - E) (36 - E)) W:=by
 have a:Tryz.prog.arrayLen 218=36:=by kernel_rfl
 have b:Tryz.prog.elem 218=5:=by kernel_rfl
 have hu:Tryz.prog.underlying 218=some (.array (Tryz.prog.arrayLen 218) (Tryz.prog.elem 218)):=by kernel_rfl
 have c:(sizeOf 5).run Tryz.prog W=.ok 1 W:=by kernel_rfl
 rw[run_sliceAt_array_l W 218 ⟨g,0,none⟩ hu .i64 (E:Int) (by omega) (by rw[a];omega),b,c,a];simp only[Result.andThen,slicedAt,Int.toNat_natCast,Nat.mul_one];rw[if_neg (by omega)];congr 3
 unfold Addr.add;split<;>simp_all
theorem slice2(g o:Nat)(W:World):(Instr.sliceAt 93 (.pointer (some ⟨g,o,none⟩)) none none none).run Tryz.prog W=.ok (.slice (some ⟨g,o,none⟩) 2 2) W:=by
 have b:Tryz.prog.arrayLen 93=2:=by kernel_rfl
 have a:Tryz.prog.elem 93=5:=by kernel_rfl
 have hu:Tryz.prog.underlying 93=some (.array (Tryz.prog.arrayLen 93) (Tryz.prog.elem 93)):=by kernel_rfl
 have c:(sizeOf 5).run Tryz.prog W=.ok 1 W:=by kernel_rfl
 rw[run_sliceAt_array_all W 93 ⟨g,o,none⟩ hu,a,c,b];simp[Result.andThen,slicedAt,Addr.add]
theorem BR:(Tryz.prog.info? 5).map (·.size)=some 1:=by kernel_rfl
theorem uw{en k:Nat}(a:l.length=36)(he:en<=36)(hk:2 * k+2<=en) :
  splice ((l.take (en - 2 * k) ++ df (2 * k) X ++ l.drop en).map (Value.int .u8)) (en - 2 * k - 2) [Value.int .u8 (48+(((X / 100 ^ k % 100:Nat):Nat):Int) / 10),Value.int .u8 (48+(((X / 100 ^ k % 100:Nat):Nat):Int) % 10)]
   = (l.take (en - 2 * (k+1)) ++ df (2 * (k+1)) X ++ l.drop en).map (Value.int .u8):=by
 have hX:(0:Int)<=(X:Int):=by omega
 have e1:df (2 * (k+1)) (X:Int)=[48+(((X / 100 ^ k % 100:Nat):Nat):Int) / 10,48+(((X / 100 ^ k % 100:Nat):Nat):Int) % 10] ++ df (2 * k) X:=by
  rw[show 2 * (k+1)=2+2 * k by omega,mw 2 (2 * k) _ hX];congr 1
  rw[show (2:Nat)=0+2 from rfl,AF]
  have e2:(X:Int) / 10 ^ (2 * k)=((X / 100 ^ k:Nat):Int):=by
   rw[Int.natCast_ediv];congr 1
   rw[Int.pow_mul];simp
  rw[e2];simp[df]
 rw[e1]
 have hA:(l.take (en - 2 * k)).length=en - 2 * k:=by simp;omega
 unfold splice;simp only[List.map_append,List.append_assoc,List.map_cons,List.length_cons,List.length_nil,List.cons_append,List.nil_append];rw[List.take_append_of_le_length (by simp;omega),List.drop_append,List.drop_of_length_le (by simp;omega)];rw[<- List.map_take,List.take_take,Nat.min_eq_left (by omega),show en - 2 * k - 2=en - 2 * (k+1) by omega];rw[List.length_map,hA,show en - 2 * (k+1)+(0+1+1) - (en - 2 * k)=0 by omega];simp
theorem nW{P:Program}{o:Oper}{a:Act}{Q:Exit->Act->World->Prop}{E:Prop}(i:o.guard=none)(d s:Operand)(l m:TypeId)(ho:o.op=.call { callee:=.builtin .copy,args:=#[d,s],argTypes:=#[l,m] })(elem:TypeId)(hu:P.underlying l=some (.slice elem))(k:(P.info? elem).map (·.size)=some 1)(g off dLen dCap:Nat)(ad:Addr)(sLen sCap:Nat)(q:a.eval d=.slice (some ⟨g,off,none⟩) dLen dCap)(r:a.eval s=.slice (some ad) sLen sCap)(cur:List Value)(t:TypeId)(n:w.heap[g]?=some (.cells cur.toArray t (0,0)))(cs:List Value)(hn:cs.length=Nat.min sLen dLen)(f:∀ j v,cs[j]?=some v->w.cell? (ad.add j)=some v)(c:off+cs.length<=cur.length)(h1:∀ v∈cs,v.oneCell'=true)(h:∀ w',Hid (w'.heap[g]?=some (.cells (splice cur off cs).toArray t (0,0)))->Hid (∀ b,b≠g->w'.heap[b]?=w.heap[b]?)->Hid (∀ B w0,B<=g->Below B w0 w->Below B w0 w')->K (a.put o.dst (goInt cs.length)) w') :
  if Region.wanted o (yielded ops a.tmps)=true then Oper.wp P o a w K Q else E:=by
 have hw:Region.wanted o (yielded ops a.tmps)=true:=by simp[Region.wanted,i]
 rw[if_pos hw];have e:=run_copy_row (P:=P) w l m o.type elem g off dLen dCap ad sLen sCap cur.toArray t cs hu k n hn f (by simpa using c) h1;unfold Oper.wp;simp[execOp,ho,resolve,invoke,builtin,q,r,e,Result.andThen];exact h _ (show _=_ by simpa[splice] using setRow_heap w g _ _ t _ n) (fun b hb=>setRow_other w g b _ hb) (fun B w0 h1 p=>below_setRow p h1 _)
theorem Aw{gt gp:Nat}(en:Nat)(h:ed w ao n c (X:Int))(hn:n<=1099511627776)(hx:X < 1000000000000000000)(T:dt w gt 218 l)(hl:l.length=36)(hen:18<=en)(u:en<=36)(g:dt w gp 219 (cO 100))(y:gt≠gp) :
  Calls Tryz.prog 138 #[.int .i64 en,.slice ao n c,.pointer (some ⟨gt,0,none⟩),.pointer (some ⟨gp,0,none⟩)] w fun e w'=>e=.returned (.tuple #[])/\dt w' gt 218 (l.take (en - 18) ++ df 18 X ++ l.drop en)/\(∀ B w0,B<=gt->Below B w0 w->Below B w0 w')/\(∀ b,b < w.heap.size->b≠gt->w'.heap[b]?=w.heap[b]?):=by
 go_enter Tryz.func138,Tryz.ntmps138;go_wp2_with fail;refine(nSmall h hn (by omega)).mono ?_
 rintro e R ⟨rfl,p⟩;have U:=T.lt;have T:=T.keep p;have g:=g.keep p
 have f:Hid (∀ b,b < w.heap.size->b≠gt->R.heap[b]?=w.heap[b]?):=fun b hb _=>p.block b hb
 have d:Hid (∀ B w0,B<=gt->Below B w0 w->Below B w0 R):=fun B w0 r m=>m.trans (p.mono (by omega))
 clear h p;go_wp2;go_loopw [0,6,13] (fun te W z wr=>∃ k:Nat,k<=9/\z=.int .i64 k/\te=.int .i64 ((en - 2 * k:Nat):Int)/\W=.int .u64 ((X / 100 ^ k:Nat):Int)/\dt wr gt 218 (l.take (en - 2 * k) ++ df (2 * k) X ++ l.drop en)/\dt wr gp 219 (cO 100)/\(∀ B w0,B<=gt->Below B w0 w->Below B w0 wr)/\(∀ b,b < w.heap.size->b≠gt->wr.heap[b]?=w.heap[b]?)) (fun _ _ z _=>9 - (intOf z).toNat)
 case atStart=>exact⟨0,by omega,rfl,rfl,by simp,by simpa[df] using T,g,d.out,f.out⟩
 case round =>
  clear T g f d;obtain⟨k,hk,rfl,rfl,rfl,T,g,d,f⟩:=hrel;by_cases K:k < 9
  ·have L:=uw (X:=X) hl u (show 2 * k+2<=en by omega);have V:=(show Hid _ from L)
   have hlen:(l.take (en - 2 * k) ++ df (2 * k) X ++ l.drop en).length=36:=by simp[dK];omega
   have d:=(show Hid _ from d)
   have f:=(show Hid _ from f)
   have hdiv:X / 100 ^ k / 100=X / 100 ^ (k+1):=by rw[Nat.div_div_eq_div_mul,Nat.pow_succ]
   have Z:=(show Hid _ from hdiv)
   have D:X / 100 ^ k < 1000000000000000000:=Nat.lt_of_le_of_lt (Nat.div_le_self _ _) hx;clear L hdiv;generalize X / 100 ^ k=Y at *
   have hi:Y % 100 < 100:=Nat.mod_lt _ (by decide)
   have htm:(Y:Int).tmod 100=((Y % 100:Nat):Int):=by rw[Int.tmod_eq_emod_of_nonneg (by omega)];omega
   generalize Y % 100=i at *
   have hi0:(i:Int) < 100:=by omega
   have x:=fun j v (A:[Value.int .u8 (48+(i:Int) / 10),Value.int .u8 (48+(i:Int) % 10)][j]?=some v)=>DD i hi j v A
   have G:=(show Hid _ from x)
   clear x;obtain⟨E,C⟩:∃ E,en - 2 * k=E+2:=⟨en - 2 * k - 2,by omega⟩
   have N:E+2<=36:=by omega
   have M:=(show Hid _ from C)
   rw[C];clear C;have Q:=DG gt E (by omega);have S:=slice2 gp (i * 2);go_wp2_with fail;go_region_law (refine nW rfl (.tmp 18) (.tmp 22) 42 42 rfl 5 cE BR gt E (36 - E) (36 - E) ⟨gp,i * 2,none⟩ 2 2 (by rfl) (by rfl) _ 218 T.drew.blk [Value.int .u8 (48+(i:Int) / 10),Value.int .u8 (48+(i:Int) % 10)] (by show 2=Nat.min 2 (36 - E);exact(Nat.min_eq_left (by omega)).symm) (fun j v A=>G.out j v A _ gp g.drew) (by rw[List.length_map,hlen];show E+2<=36;omega) (by simp[Value.oneCell']) ?_;intro O q s H)
   have P:dt O gt 218 (l.take (en - 2 * (k + 1)) ++ df (2 * (k + 1)) X ++ l.drop en):=⟨by
    rw[<- V.out,show en - 2 * k - 2=E by have:=M.out;omega];exact q.out⟩
   have t:dt O gp 219 (cO 100):=⟨by rw[s.out gp (fun e=>y e.symm)];exact g.blk⟩
   have I:=(show Hid _ from P)
   have o:=(show Hid _ from t)
   have aa:(Y:Int).tdiv 100=((Y / 100:Nat):Int):=by rw[Int.tdiv_eq_ediv_of_nonneg (by omega)];omega
   have J:Y / 100 < 1000000000000000000:=Nat.lt_of_le_of_lt (Nat.div_le_self _ _) D;generalize hY2:Y / 100=Y2 at *;have HY2:=(show Hid _ from hY2)
   clear hY2 P t T g q;go_wp2;go_roundw
   case rel=>exact⟨k+1,by omega,by go_num,by rw[show en - 2 * (k+1)=E by have:=M.out;omega],by rw[<- Z.out],I.out,o.out,fun B w0 r m=>H.out B w0 r (d.out B w0 r m).drew,fun b r m=>(s.out b m).trans (f.out b r m)⟩
   case measure=>simp[intOf];omega
  ·have F:k=9:=by omega
   subst F;have d:=(show Hid _ from d)
   have f:=(show Hid _ from f)
   go_wp2;go_end0;exact⟨rfl,T,d.out,f.out⟩
theorem ed.over{t:TypeId}(h:ed w ao n c x)(T:dt w g t l)(q:∀ b,b < w.heap.size->b≠g->w'.heap[b]?=w.heap[b]?):ed w' ao n c x:=by
 obtain⟨b,o,m,k,j,p,f⟩:=h.ex;refine⟨b,o,m,k,j,p,f.loc,fun i hi=>?_⟩;have hc:=f.cell i hi;have hb:=aF hc
 have a:b≠g:=by
  intro e;subst e;have d:=T.blk;simp only[World.cell?,d] at hc;simp at hc
 rw[World.cell?_of_block (w:=w) (q b hb a)];exact hc
theorem dt.over{g':Nat}{t:TypeId}(h:dt w g' t l)(hne:g'≠g)(HK:∀ b,b < w.heap.size->b≠g->w'.heap[b]?=w.heap[b]?):dt w' g' t l:=⟨by rw[HK g' h.lt hne];exact h.blk⟩
theorem sI(g:Nat)(W:World):(Instr.sliceAt 218 (.pointer (some ⟨g,0,none⟩)) none none none).run Tryz.prog W=.ok (.slice (some ⟨g,0,none⟩) 36 36) W:=by
 have b:Tryz.prog.arrayLen 218=36:=by kernel_rfl
 have a:Tryz.prog.elem 218=5:=by kernel_rfl
 have hu:Tryz.prog.underlying 218=some (.array (Tryz.prog.arrayLen 218) (Tryz.prog.elem 218)):=by kernel_rfl
 have c:(sizeOf 5).run Tryz.prog W=.ok 1 W:=by kernel_rfl
 rw[run_sliceAt_array_all W 218 ⟨g,0,none⟩ hu,a,c,b];simp[Result.andThen,slicedAt,Addr.add]
theorem rk{t:TypeId}(R:dt w g t d)(i:d.length=36)(h:fY d):∃ S:ByteArray,(convert 42 9 (.slice (some ⟨g,0,none⟩) 36 36)).run Tryz.prog w=Result.ok (.string S) w/\S.data.toList.map (fun c=>(c.toNat:Int))=d:=by
 have a:=run_loadCells_list (P:=Tryz.prog) w ⟨g,0,none⟩ (d.map (Value.int .u8)) (fun j u hu=>by
  rw[List.getElem?_map] at hu
  have e:j < d.length:=by
   rcases Nat.lt_or_ge j d.length with e | e
   ·exact e
   ·rw[List.getElem?_eq_none e] at hu;simp at hu
  rw[List.getElem?_eq_getElem e] at hu;simp at hu;subst hu;have:=R.cell e;rw[bS e] at this;rw[<- this];by_cases f:j=0
  ·subst f;exact congrArg w.cell? (by simp[Addr.add])
  ·exact congrArg w.cell? (by simp[Addr.add,f]))
 rw[List.length_map,i] at a;have b:=(run_convert_bytes_string (P:=Tryz.prog) w 42 9 5 (some ⟨g,0,none⟩) 36 36 cE rV j0).trans (run_bytesToString w ⟨g,0,none⟩ 36 36 d a);refine⟨_,b,?_⟩;rw[oR d ByteArray.empty];simp only[show ByteArray.empty.data.toList=[] from rfl,List.nil_append,List.map_map]
 conv=>rhs;rw[<- List.map_id d]
 apply List.map_congr_left;intro c hc;have:=h c hc;simp[Function.comp,UInt8.toNat_ofNat'];omega
theorem Cf(h:aI w ao n c x)(hn:n≤274877906944)(hx:x < U36) :
    Calls Tryz.prog 74 #[.agg #[.slice ao n c]] w fun e w'=>∃ S:ByteArray,e=.returned (.string S)∧S.data.toList.map (fun c=>(c.toNat:Int))=df 36 x∧Below w.heap.size w w':=by
  have j:=nC w (.cells #[.slice ao n c] 26) (.cells ((List.replicate 36 (0:Int)).map (Value.int .u8)).toArray 218);have g:=mM (w.alloc (.cells #[.slice ao n c] 26)) 218 (List.replicate 36 0);rw[show (w.alloc (.cells #[.slice ao n c] 26)).heap.size=w.heap.size+1 by simp] at g;have i:=(eX w (.slice ao n c) 26).alloc (.cells ((List.replicate 36 (0:Int)).map (Value.int .u8)).toArray 218);have h:=h.keep j;go_enter Tryz.func74,Tryz.ntmps74;go_wp2_with fail;change Calls _ _ _ ((w.alloc (.cells #[.slice ao n c] 26)).alloc (.cells ((List.replicate 36 (0:Int)).map (Value.int .u8)).toArray 218)) _
  refine dPairs.mono ?_
  rintro e d ⟨rfl,b⟩;have g:=g.keep b;have i:=i.keep b;have h:=h.keep b;have j:=aj j b;have W:=g.lt;clear b
  have o:(d.alloc (.cells Tryz.zeroCells219 219)).heap[d.heap.size]?=some (.cells Tryz.zeroCells219 219 (0,0)):=heap_alloc_new d _
  have y:Tryz.zeroCells219.size=200:=by kernel_rfl
  have t:((cO 100).map (Value.int .u8)).toArray.size=200:=by simp[bX]
  have Q:=ai d (.cells Tryz.zeroCells219 219)
  have p:dt ((d.alloc (.cells Tryz.zeroCells219 219)).setRow d.heap.size ((cO 100).map (Value.int .u8)).toArray) d.heap.size 219 (cO 100):=⟨setRow_heap _ _ _ _ _ _ o⟩
  have s:Below d.heap.size d ((d.alloc (.cells Tryz.zeroCells219 219)).setRow d.heap.size ((cO 100).map (Value.int .u8)).toArray):=below_setRow Q (Nat.le_refl _) _;have g:=g.keep s;have i:=i.keep s;have h:=h.keep s;have j:=aj j s;have HN:=(show Hid _ from o);have U:=(show Hid _ from y);have A:=(show Hid _ from t);have HBS:=(show Hid _ from s.size);clear o y t Q s;generalize hW2:(d.alloc (.cells Tryz.zeroCells219 219)).setRow d.heap.size ((cO 100).map (Value.int .u8)).toArray=w2 at *;have D:=(show Hid _ from hW2);clear hW2;go_wp2_with (refine wpList_store_row rfl 219 (.tmp 4) (.tmp 9) rfl d.heap.size _ rfl rfl 219 _ HN.out (by rw[A.out];kernel_rfl) (by rw[A.out,U.out]) (by simp[Value.oneCell']) ?_;rw[D.out]);obtain⟨X,hX⟩:∃ X:Nat,x=(X:Int):=⟨x.toNat,by have:=h.ql;omega⟩;subst hX
  have T : X < 1000000000000000000000000000000000000 := by have : U36 = 1000000000000000000000000000000000000 := by decide
                                                           omega
  have F:=(show Hid _ from mw 18 18 (X:Int) (by omega));have q0:=i.cell;go_region_held3 (fun w'=>w'.cell? ⟨w.heap.size,0,none⟩=some (.slice ao n c)) (first | exact(by assumption) | go_keep)
    (first
    | (go_at_call 139;refine(yd 18 (by decide)).mono ?_;rintro e w3 ⟨a3,k3,d3,rfl,M,hk3,b⟩;have g:=g.drew.keep b;have p:=p.drew.keep b;have i:=i.drew.keep b;have q0:=i.cell;have h:=h.drew.keep b;have j:=aj j.drew b;clear b)
    | (go_at_call 128;refine(nDiv h M.a (by omega) (by omega) (by decide)).mono ?_;rintro e w4 ⟨a4,k4,d4,a5,k5,d5,rfl,q,f,hk4,Z,b⟩;have g:=g.keep b;have p:=p.keep b;have i:=i.keep b;have q0:=i.cell;have j:=aj j b;clear b h M))
  all_goals (
    have q:=q.eqv (show (X:Int) / 10 ^ 18=((X / 1000000000000000000:Nat):Int) from by omega);have f:=f.eqv (show (X:Int) % 10 ^ 18=((X % 1000000000000000000:Nat):Int) from by omega)
    have L:X / 1000000000000000000 < 1000000000000000000:=by omega
    have G:X % 1000000000000000000 < 1000000000000000000:=by omega
    have I:Hid ((X:Int) / 10 ^ 18=((X / 1000000000000000000:Nat):Int)):=by show _=_;omega
    have K:Hid (df 18 (X:Int)=df 18 ((X % 1000000000000000000:Nat):Int)):=by
      show _=_
      apply pW (mY (by omega)) (mY (by omega)) (by simp[dK]);rw[rY (by omega),rY (by omega)];omega
    generalize X / 1000000000000000000=C at *;generalize X % 1000000000000000000=V at *
    have m:w.heap.size+1≠d.heap.size:=by omega
    have u:=Aw 18 q (by omega) L g (by simp) (by decide) (by decide) p m;go_wp2_with fail;refine u.mono ?_
    rintro e w5 ⟨rfl,N,B,r⟩;have f:=f.over g r;have p:=p.over (fun e=>m e.symm) r;have R:=B w.heap.size w (by omega) j;clear u g i q0 B r q j;have z:=Aw 36 f (by omega) G N (by simp[dK]) (by decide) (by decide) p m;go_wp2_with fail;refine z.mono ?_
    rintro e Y ⟨rfl,E,v,J⟩;have B6:=v w.heap.size w (by omega) R
    clear z f p v J N R)
  all_goals (
    have O:(List.take (36 - 18) (List.take (18 - 18) (List.replicate 36 (0:Int)) ++ df 18 (C:Int) ++ List.drop 18 (List.replicate 36 0)) ++ df 18 (V:Int) ++ List.drop 36 (List.take (18 - 18) (List.replicate 36 (0:Int)) ++ df 18 (C:Int) ++ List.drop 18 (List.replicate 36 0)))=df 36 (X:Int):=by
      rw[F.out,I.out,K.out]
      have l1:(df 18 (C:Int)).length=18:=dK _ _;rw[List.take_append_of_le_length (by simp[l1]),List.drop_of_length_le (l:=List.take (18 - 18) (List.replicate 36 (0:Int)) ++ df 18 (C:Int) ++ List.drop 18 (List.replicate 36 0)) (by simp[l1])];rw[show List.take (18 - 18) (List.replicate 36 (0:Int))=[] from rfl,List.nil_append,List.take_of_length_le (by omega),List.append_nil]
    rw[O] at E;obtain⟨S,hS1,H⟩:= rk E (dK 36 _) (mY (by omega));have P:=sI (w.heap.size+1) Y;clear O E;go_wp2;go_ret
    exact⟨S,rfl,H,B6⟩)
end
end Go.Proofs.YtgdohcdlkonhiaaGreatDoor
namespace Go.Proofs.YtgdohcdlkonhiaaGreatDoor
open Go.RowKit Lim
end Go.Proofs.YtgdohcdlkonhiaaGreatDoor
namespace Go.Proofs.YtgdohcdlkonhiaaGreatDoor
open Go.RowKit Lim
end Go.Proofs.YtgdohcdlkonhiaaGreatDoor
namespace Go.Proofs.YtgdohcdlkonhiaaGreatDoor
open Go.RowKit Lim
end Go.Proofs.YtgdohcdlkonhiaaGreatDoor
namespace Go.Proofs.YtgdohcdlkonhiaaGreatDoor
open Go.RowKit Lim
section
variable {w:World}{x:Int}{ao:Option Addr}{n c:Nat}
def sS(r:Int):List UInt8:=(df 36 r).map fun c=>UInt8.ofNat c.toNat
def vY(r:Int):List UInt8:=if r=0 then [] else 46 :: Lib.trimRightB (sS r) 48
structure Af(S:ByteArray)(x:Int):Prop where
 ex:∃ Sw:ByteArray,qo Sw (x / U36)/\S.data.toList=Sw.data.toList ++ vY (x % U36)
theorem Cg{S:ByteArray}{r:Int}(h:S.data.toList.map (fun c=>(c.toNat:Int))=df 36 r):S.data.toList=sS r:=by
 unfold sS;rw[<- h,List.map_map]
 conv=>lhs;rw[<- List.map_id S.data.toList]
 apply List.map_congr_left;intro c _;simp[Function.comp]
def la(w:World)(x:Int):Prop:=∀ g,fS g->ey g=x->g≠[]->0 < nth g (g.length - 1)->∀ wx,Below w.heap.size w wx->rU (nth g (g.length - 1)) wx
theorem la.keep{w':World}(h:la w x)(hb:Below w.heap.size w w'):la w' x:=fun g h1 h2 h3 h4 wx hx=>h g h1 h2 h3 h4 wx (aj hb hx)
theorem xX(l:List UInt8)(c:UInt8):(Lib.trimRightB l c).length<=l.length:=by
 unfold Lib.trimRightB;rw[List.length_reverse];have:=(List.dropWhile_sublist (fun x=>x == c) (l:=l.reverse)).length_le;rwa [List.length_reverse] at this
theorem rf(r:Int):(sS r).length=36:=by unfold sS;rw[List.length_map,dK]
theorem nText(h:aI w ao n c x)(hn:n<=4294967296)(hA:la w x) :
  Calls Tryz.prog 71 #[.slice ao n c] w fun e w'=>∃ s,e=.returned (.string s)/\qo s x/\s.size<=40 * n+40/\Below w.heap.size w w':=by
 obtain⟨b,o,l,g,a,d,f,rfl⟩:=h.ex;exact zQ ao n c b o l w g a hn d f hA
theorem uW(h:aI w ao n c x)(hn:n<=4294967000)(hA:la w (x / U36)) :
  Calls Tryz.prog 25 #[.agg #[.slice ao n c]] w fun e w'=>∃ S:ByteArray,e=.returned (.string S)/\Af S x/\S.size<=40 * n+100/\Below w.heap.size w w':=by
 have f:=ai w (.cells #[.slice ao n c] 26);have z:=eX w (.slice ao n c) 26;have h:=h.keep f;have hA:=hA.keep f;have q0:=z.cell;go_enter Tryz.func25,Tryz.ntmps25;have F:=h.ql;have v:=BI
 have D:0<=x % U36:=Int.emod_nonneg _ (by omega)
 have s:x % U36 < U36:=Int.emod_lt_of_pos _ v;go_wp2_with fail;refine(dTrunc h (by omega)).mono ?_
 rintro e u ⟨a1,k1,d1,a2,k2,d2,rfl,g,d,I,H,b⟩;have f:=aj f b;have hA:=hA.keep b;clear b h z q0;have p:=ai u (.cells #[.slice a2 k2 d2] 26);have l:=eX u (.slice a2 k2 d2) 26;have g:=g.keep p;have d:=d.keep p;have hA:=hA.keep p;have f:=aj f p;have y:=nText g.a (by omega) hA;clear p hA;go_wp2_with fail;refine y.mono ?_
 rintro e O ⟨q,rfl,o,K,b⟩;have d:=d.keep b;have l:=l.keep b;have f:=aj f b;have G:=l.cell;clear b y g;have m:=Ec d.a (by omega);generalize u.heap.size=N at *;by_cases j:x % U36=0
 ·rw[decide_eq_true j] at m;have t:=(show Hid _ from j)
  clear j;go_wp2_with fail;refine m.mono ?_
  rintro e J ⟨rfl,b⟩;go_wp2;go_ret;exact⟨q,rfl,⟨q,o,by rw[t.out];simp[vY]⟩,by omega,aj f b⟩
 ·rw[decide_eq_false j] at m;have t:=(show Hid _ from j)
  clear j;go_wp2_with fail;refine m.mono ?_
  rintro e J ⟨rfl,b⟩;have d:=d.keep b;have l:=l.keep b;have f:=aj f b;have G:=l.cell;clear b m;go_wp2_with fail;refine(Cf d.a (by omega) s).mono ?_
  rintro e B ⟨S,rfl,hS,b⟩;have i:=Cg hS
  have C:S.size=36:=by
   have:(S.data.toList.map (fun c=>(c.toNat:Int))).length=36:=by rw[hS,dK]
   simpa using this
  have f:=aj f b;clear b hS;have r:=Tryz.strings_TrimRight_one S 48 (by decide) B (by omega);rw[i] at r;generalize hR:(⟨(Lib.trimRightB (sS (x % U36)) 48).toArray⟩:ByteArray)=R at r
  have E:R.size<=36:=by
   have A:=xX (sS (x % U36)) 48;rw[rf] at A;rw[<- hR];simpa[ByteArray.size] using A
  have L:=(show Hid _ from hR)
  clear i hR;go_wp2_with fail;refine r.mono ?_
  rintro e M ⟨rfl,rfl⟩;go_wp2_with fail;go_ret;refine⟨_,rfl,⟨q,o,?_⟩,?_,f⟩
  ·rw[vY,if_neg t.out,<- L.out];simp
  ·show (q ++ (⟨#[46]⟩:ByteArray) ++ R).size<=_
   rw[ByteArray.size_append,ByteArray.size_append];have:(⟨#[46]⟩:ByteArray).size=1:=rfl;omega
end
end Go.Proofs.YtgdohcdlkonhiaaGreatDoor
