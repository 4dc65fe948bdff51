import Derived.Test.YthfepflplbahkaaGreatDoorJab
import Derived.Laws.Tables
import Derived.Laws.Rows
import Derived.Laws.CopyOwn
import Derived.Test.YthfepflplbahkaaGreatDoorJam
import Derived.Lib.AppendStr
import Derived.Shelf.Strings.Trim
import Derived.Shelf.LaysM
import Derived.Shelf.Strings.Search1
import Derived.Shelf.Strconv.AppendUint10
import Derived.Test.YthfepflplbahkaaGreatDoorProg
import Derived.Test.YthfepflplbahkaaGreatDoorJaa
import Derived.Deep.RegionLaw
import Derived.Deep.RegionHeld3
set_option maxRecDepth 100000
set_option maxHeartbeats 8000000
namespace Go.Proofs.YthfepflplbahkaaGreatDoor
open Go.RowKit Lim
section
variable {w:World}{g i:Nat}{l:List Int}
structure dx(w:World)(g:Nat)(t:TypeId)(l:List Int):Prop where
 blk:w.heap[g]? = some (.cells (l.map (Value.int .u8)).toArray t (0,0))
theorem dx.lt{t:TypeId}(h:dx w g t l):g < w.heap.size:=lt_of_block h.blk
theorem dx.keep{w':World}{t:TypeId}(h:dx w g t l)(hb:Below w.heap.size w w'):dx w' g t l:=⟨by rw[hb.block g h.lt]; exact h.blk⟩
theorem dx.cell{t:TypeId}(h:dx w g t l)(hi:i < l.length):w.cell? ⟨g,i,none⟩=some (.int .u8 (nth l i)):=by
 simp[World.cell?,h.blk,hi,bS hi]
theorem dx.free{t:TypeId}(h:dx w g t l)(i:Nat):w.frozen? ⟨g,i,none⟩=false:=by simp[World.frozen?,h.blk]
theorem dx.set{t:TypeId}(h:dx w g t l)(i:Nat)(x:Int):dx (w.setCell ⟨g,i,none⟩ (.int .u8 x)) g t (l.set i x):=⟨by
 have hb:=h.blk;simp only[World.setCell,Array.getElem?_modify,if_true,hb]
 simp⟩
theorem dx.other{g':Nat}{t:TypeId}(h:dx w g t l)(hne:g≠g')(u:Value):dx (w.setCell ⟨g',i,none⟩ u) g t l:=⟨by rw[Below.heap_setCell w _ u g hne]; exact h.blk⟩
theorem dx.drew{t:TypeId}(h:dx w g t l):dx w.drew g t l:=⟨h.blk⟩
theorem mO(w:World)(t:TypeId)(l:List Int):dx (w.alloc (.cells (l.map (Value.int .u8)).toArray t)) w.heap.size t l:=⟨by
 show (w.heap.push _)[w.heap.size]? = _
 rw[Array.getElem?_push_size]⟩
def cI:Nat->List Int
 | 0=>[]
 | k + 1=>cI k ++ [48 + (k:Int) / 10,48 + (k:Int) % 10]
theorem bU(k:Nat):(cI k).length=2 * k:=by
 induction k with
 | zero=>rfl
 | succ k ih=>simp[cI,ih]; omega
theorem vY{k:Nat}(h:i < k):nth (cI k) (2 * i)=48 + (i:Int) / 10/\nth (cI k) (2 * i + 1)=48 + (i:Int) % 10:=by
 induction k with
 | zero=>omega
 | succ k ih =>
  have a:=bU k;by_cases e:i=k
  ·subst e;rw[cI,bI (by omega),bI (by omega),a,Nat.sub_self,show 2 * i + 1 - 2 * i=1 by omega];exact⟨rfl,rfl⟩
  ·rw[cI,cQ (by omega),cQ (by omega)];exact ih (by omega)
theorem dPairs:Calls Tryz.prog 108 #[] w fun e w'=>e=.returned (.agg ((cI 100).map (Value.int .u8)).toArray)/\Below w.heap.size w w':=by
 go_enter Tryz.func108,Tryz.ntmps108;go_wp2
 have n:Tryz.zeroCells183=((List.replicate 200 (0:Int)).map (Value.int .u8)).toArray:=by kernel_rfl
 rw[n];have b:=mO (w.alloc (.cells ((List.replicate 200 (0:Int)).map (Value.int .u8)).toArray 183)) 183 (List.replicate 200 0);rw[show (w.alloc (.cells ((List.replicate 200 (0:Int)).map (Value.int .u8)).toArray 183)).heap.size=w.heap.size + 1 by simp] at b;have d:=(mO w 183 (List.replicate 200 0)).keep (ae _ (.cells ((List.replicate 200 (0:Int)).map (Value.int .u8)).toArray 183));have f:=mh w (.cells ((List.replicate 200 (0:Int)).map (Value.int .u8)).toArray 183) (.cells ((List.replicate 200 (0:Int)).map (Value.int .u8)).toArray 183);clear n;generalize (w.alloc (.cells ((List.replicate 200 (0:Int)).map (Value.int .u8)).toArray 183)).alloc (.cells ((List.replicate 200 (0:Int)).map (Value.int .u8)).toArray 183)=u at *;go_loopw [3] (fun j wr=>∃ k:Nat,k<=100/\j=.int .i64 k/\dx wr (w.heap.size + 1) 183 (cI k ++ List.replicate (200 - 2 * k) 0)/\dx wr w.heap.size 183 (List.replicate 200 0)/\Below w.heap.size w wr) (fun j _=>100 - (intOf j).toNat)
 case atStart=>exact⟨0,by omega,rfl,b,d,f⟩
 case round =>
  clear b d f;obtain⟨k,v,rfl,b,d,f⟩:=hrel;by_cases r:k < 100
  ·have q:(k:Int) < 100:=by omega
   have hlen:(cI k ++ List.replicate (200 - 2 * k) (0:Int)).length=200:=by rw[List.length_append,bU,List.length_replicate]; omega
   have o:nth (cI k ++ List.replicate (200 - 2 * k) (0:Int)) (k * 2)=0:=by
    rw[bI (by rw[bU]; omega),bS (by rw[bU,List.length_replicate]; omega)]; simp
   have e1:nth (cI k ++ List.replicate (200 - 2 * k) (0:Int)) (k * 2 + 1)=0:=by
    rw[bI (by rw[bU]; omega),bS (by rw[bU,List.length_replicate]; omega)]; simp
   have c1:=b.cell (i:=k * 2) (by rw[hlen]; omega);have c2:=b.cell (i:=k * 2 + 1) (by rw[hlen]; omega);rw[o] at c1;rw[e1] at c2;have f1:=b.free (k * 2);have f2:=b.free (k * 2 + 1)
   have t:Hid (dx ((wr.setCell ⟨w.heap.size + 1,k * 2,none⟩ (.int .u8 (48 + (k:Int) / 10))).setCell ⟨w.heap.size + 1,k * 2 + 1,none⟩ (.int .u8 (48 + (k:Int) % 10))) (w.heap.size + 1) 183 (cI (k + 1) ++ List.replicate (200 - 2 * (k + 1)) 0)):=by
    have:=(b.set (k * 2) (48 + (k:Int) / 10)).set (k * 2 + 1) (48 + (k:Int) % 10)
    have hs:((cI k ++ List.replicate (200 - 2 * k) (0:Int)).set (k * 2) (48 + (k:Int) / 10)).set (k * 2 + 1) (48 + (k:Int) % 10)=cI (k + 1) ++ List.replicate (200 - 2 * (k + 1)) 0:=by
     rw[show 200 - 2 * k=200 - 2 * (k + 1) + 1 + 1 by omega,List.replicate_succ,List.replicate_succ,cI];rw[show k * 2=(cI k).length by rw[bU]; omega];rw[List.set_append_right _ _ (Nat.le_refl _),Nat.sub_self,List.set_cons_zero,List.set_append_right _ _ (by omega),Nat.add_sub_cancel_left,List.set_cons_succ,List.set_cons_zero];simp
    rw[hs] at this;exact this
   have s:Hid (dx ((wr.setCell ⟨w.heap.size + 1,k * 2,none⟩ (.int .u8 (48 + (k:Int) / 10))).setCell ⟨w.heap.size + 1,k * 2 + 1,none⟩ (.int .u8 (48 + (k:Int) % 10))) w.heap.size 183 (List.replicate 200 0)):=(d.other (by omega) _).other (by omega) _
   have l:Hid (Below w.heap.size w ((wr.setCell ⟨w.heap.size + 1,k * 2,none⟩ (.int .u8 (48 + (k:Int) / 10))).setCell ⟨w.heap.size + 1,k * 2 + 1,none⟩ (.int .u8 (48 + (k:Int) % 10)))):=(f.setCell (p:=⟨w.heap.size + 1,k * 2,none⟩) (by show w.heap.size<=w.heap.size + 1; omega) _).setCell (p:=⟨w.heap.size + 1,k * 2 + 1,none⟩) (by show w.heap.size<=w.heap.size + 1; omega) _;clear b d f o e1 hlen;go_wp2;go_roundw
   case rel=>exact⟨k + 1,by omega,by go_num,t.out,s.out,l.out⟩
   case measure=>simp[intOf]; omega
  ·have m:k=100:=by omega
   subst m;rw[show cI 100 ++ List.replicate (200 - 2 * 100) (0:Int)=cI 100 by simp] at b
   have c:((cI 100).map (Value.int .u8)).toArray.size=200:=by simp[bU]
   have l:=(show Hid _ from f)
   go_wp2_with (first
    | (refine wpList_load_row rfl 183 (.tmp 1) rfl (w.heap.size + 1) rfl 183 _ (0,0) _ b.blk Tryz.underlying183 rfl (by rw[c]; kernel_rfl) ?_)
    | (refine wpList_store_row rfl 183 (.tmp 0) (.tmp 18) rfl w.heap.size _ rfl rfl 183 _ d.blk (by rw[c]; kernel_rfl) (by rw[c]; simp) (by simp[Value.oneCell']) ?_))
   have g:=setRow_heap wr w.heap.size _ ((cI 100).map (Value.int .u8)).toArray _ _ d.blk;refine bodyPost_ret (results_cell_row rfl _ _ w.heap.size 183 _ (0,0) _ rfl g Tryz.underlying183 rfl (by rw[c]; kernel_rfl)) rfl ?_
   exact⟨rfl,below_setRow l.out (Nat.le_refl _) _⟩
end
end Go.Proofs.YthfepflplbahkaaGreatDoor
namespace Go.Proofs.YthfepflplbahkaaGreatDoor
open Go.RowKit Lim
section
variable {l:List Int}{w:World}{B n:Nat}{v:Value}{xs:List Value}
def ec:List Int->Int
 | []=>0
 | x :: l=>x + 10000000000000000000 * ec l
def fG(l:List Int):Prop:=∀ x∈l,0<=x/\x < 10000000000000000000
theorem kI(a b:List Int):ec (a ++ b)=ec a + 10000000000000000000 ^ a.length * ec b:=by
 induction a with
 | nil=>simp[ec]
 | cons x a ih=>simp only[List.cons_append,ec,ih,List.length_cons,Int.pow_succ]; grind
theorem gJ(h:fG l):0<=ec l:=by
 induction l with
 | nil=>simp[ec]
 | cons x l ih=>have:=h x List.mem_cons_self; have:=ih fun y hy=>h y (List.mem_cons_of_mem _ hy); simp only[ec]; omega
def lenOf:Value->Nat | .slice _ n _=>n | _=>0
theorem ub:Tryz.prog.underlying 29=some (.slice 22):=by kernel_rfl
theorem Dx{e:TypeId}(h:w.ownsRow B e 1 v n xs):lenOf v=n:=by
 rcases h.2 with⟨rfl,h0⟩ | ⟨g',cap,cur,rfl,_⟩
 ·simp[lenOf,h0]
 ·rfl
theorem eh.wr{b o:Nat}{w':World}(h:eh w B v l)(hw:Wr b o n w w')(hb:b < B):eh w' B v l:=by
 obtain⟨e,c⟩:=h;refine⟨e,?_⟩;rcases c with c | ⟨g,cap,cur,rfl,a,d,f⟩
 ·exact .inl c
 ·exact .inr ⟨g,cap,cur,rfl,a,by rw[hw.block g (by omega)]; exact d,f⟩
theorem eh.mono{B':Nat}(h:eh w B v l)(hB:B'<=B):eh w B' v l:=by
 obtain⟨h1,h2⟩:=h;refine⟨h1,?_⟩;rcases h2 with h2 | ⟨g,cap,cur,rfl,hB1,hr⟩
 ·exact .inl h2
 ·exact .inr ⟨g,cap,cur,rfl,by omega,hr⟩
theorem lQ{k:Nat}{V R:Int}(b:10000000000000000000 ^ k * R<=V)(a:1<=R)(d:V < 18446744073709551616 ^ n):k<=2 * n:=by
 by_cases c:k<=2 * n
 ·exact c
 ·have e1:(18446744073709551616:Int) ^ n<=(4294967296 ^ 2) ^ n:=by rw[show (4294967296:Int) ^ 2=18446744073709551616 from rfl]; exact Int.le_refl _
  rw[<- Int.pow_mul] at e1
  have e2:(4294967296:Int) ^ (2 * n)<=4294967296 ^ k:=by
   have:(4294967296:Nat) ^ (2 * n)<=4294967296 ^ k:=Nat.pow_le_pow_right (by decide) (by omega)
   have a1:((4294967296 ^ (2 * n):Nat):Int)=(4294967296:Int) ^ (2 * n):=by rw[Int.natCast_pow]; rfl
   have a2:((4294967296 ^ k:Nat):Int)=(4294967296:Int) ^ k:=by rw[Int.natCast_pow]; rfl
   omega
  have e3:(4294967296:Int) ^ k<=10000000000000000000 ^ k:=by
   have:(4294967296:Nat) ^ k<=10000000000000000000 ^ k:=Nat.pow_le_pow_left (by omega) _
   have a1:((4294967296 ^ k:Nat):Int)=(4294967296:Int) ^ k:=by rw[Int.natCast_pow]; rfl
   have a2:((10000000000000000000 ^ k:Nat):Int)=(10000000000000000000:Int) ^ k:=by rw[Int.natCast_pow]; rfl
   omega
  have e:(10000000000000000000:Int) ^ k * 1<=10000000000000000000 ^ k * R:=Int.mul_le_mul_of_nonneg_left a (Int.le_of_lt (Int.pow_pos (by decide)));omega
theorem kz(ao:Option Addr)(n c b o:Nat)(l:List Int)(w:World)(hl:l.length=n)(hc:n<=c)(hbig:n<=1099511627776)(wl:Words l)(ha:At w ao b o l) :
  Calls Tryz.prog 101 #[.slice ao n c] w fun e w'=>∃ v g,e=.returned v/\eh w' w.heap.size v g/\fG g/\ec g=val l/\(g≠[]->0 < nth g (g.length - 1))/\g.length<=2 * n + 1/\Below w.heap.size w w':=by
 obtain⟨i0,hi,hz0,hz1,Q⟩:=info_parts gV;have hV:=dw wl;rw[hl] at hV;go_enter Tryz.func101,Tryz.ntmps101;go_wp2_with fail;refine(jj ao n c b o l w hl hc hbig ha).mono ?_
 rintro e w1 ⟨rfl,m,hb1⟩;have hn:=bp l;have hnl:=aJ l;have hI:=b8 wl;have H:=m.lt;go_wp2_with fail;go_loopw [3,4] (fun tg tr wr=>∃ (g lr:List Int) (N C:Nat),tr=.slice (some ⟨w.heap.size,0,none⟩) N C/\Hid (N=lr.length)/\N<=C/\N<=n/\Hid (lenOf tg=g.length)/\eh wr (w.heap.size + 1) tg g/\fG g/\Words lr/\Hid (aE lr=lr.length)/\Hid (ec g + 10000000000000000000 ^ g.length * val lr=val l)/\Hid (g≠[]->val lr=0->0 < nth g (g.length - 1))/\At wr (some ⟨w.heap.size,0,none⟩) w.heap.size 0 lr/\dB wr w.heap.size 0 N/\w.heap.size < wr.heap.size/\Below w.heap.size w wr) (fun tg _ _=>2 * n + 2 - lenOf tg)
 case atStart=>exact⟨[],norm l,aE l,aE l,rfl,hnl.symm,Nat.le_refl _,by omega,rfl,World.ownsRow_nil _ _ _ _,fun x hx=>by simp at hx,hI.1,hI.2.1,by show _=_; simp[ec,cU],fun h=>absurd rfl h,m.at,m.free _ _,H,hb1⟩
 case round =>
  clear m hb1 hnl hI H hn;obtain⟨g,lr,N,C,rfl,hN,hNC,hNn,Z,B,y,O,aa,f,s,hat,L,hsz,P⟩:=hrel;by_cases hlt:0 < N
  ·go_wp2_with fail;refine(gF (some ⟨w.heap.size,0,none⟩) w.heap.size 0 N C 10000000000000000000 lr wr hN.out.symm (by omega) hNC (by decide) (by decide) O hat L).mono ?_
   rintro e T ⟨left,q,rfl,hf0,hf1,hlz,hwz,E,d,M⟩
   have X:g.length<=2 * n:=by
    have hn0:=hN.out;have hp:=qm O (by have:=aa.out; omega);have hg0:=gJ y;have hv:=f.out;exact lQ (V:=val l) (R:=val lr) (by omega) (by omega) hV
   have t:=B.wr d (by omega)
   have I:T.ownsRow (w.heap.size + 1) 22 1 _ g.length (g.map (Value.int .u64)):=t
   have hsz2:wr.heap.size<=T.heap.size:=Nat.le_of_eq d.size.symm
   have hsz2':T.heap.size<=wr.heap.size:=Nat.le_of_eq d.size;generalize hGL:g.length=G at *;have D:=(show Hid _ from hGL)
   clear hGL;go_wp2_with (at_builtin; refine wpList_append_own _ rfl _ _ 29 rfl (w.heap.size + 1) 22 i0 (.int .u64 0) 1 8 ub hi hz0 hz1 Q rfl (by decide) _ _ _ rfl (I.alloc _) ⟨T.heap.size,0,none⟩ 1 1 [.int .u64 left] rfl rfl ?c1 ?c2 ?c3 ?c4 ?c5 ?_)
   case c1=>exact cell_one_new _ _ _
   case c2=>intro u hu; simp at hu; subst hu; rfl
   case c3=>unfold maxLen; omega
   case c4=>omega
   case c5=>simp; omega
   intro v' Y j z _
   have r:Below (w.heap.size + 1) T Y:=((Below.refl _ _).alloc (by omega) _).grown z (by simp; omega) (sy t);have A:=E.below r (.inr (by omega));have F:=d.free L
   have W:dB Y w.heap.size 0 N:=fun i hi=>by rw[r.frozen (p:=⟨w.heap.size,0 + i,none⟩) (by show w.heap.size < _; omega)]; exact F i hi
   have hM:eh Y (w.heap.size + 1) v' (g ++ [left]):=by
    unfold eh;rw[List.length_append,D.out,List.map_append]; exact j
   have hlv:=Dx j;have hsz3:=r.size
   have HB:Below w.heap.size w Y:=(P.trans (d.below (Nat.le_refl _))).trans (r.mono (by omega));have t3:=bj (some ⟨w.heap.size,0,none⟩) N C q Y hlz hNC (by omega) A.cells;have hz1:=bp q;have Q:=aJ q;have hz3:=A.sub (aE q);have hz4:=oC q;have J:=cU q;have hz6:=hwz.norm;rw[show q.take (aE q)=norm q from rfl] at hz3
   have hvl:0 < val lr:=qm O (by have:=aa.out; have:=hN.out; omega)
   have HV:Hid (ec (g ++ [left]) + 10000000000000000000 ^ (g ++ [left]).length * val (norm q)=val l):=by
    show _=_
    rw[kI,List.length_append,J,<- f.out,<- M,D.out,List.length_singleton,Int.pow_succ];simp only[ec];grind
   have HT:Hid ((g ++ [left])≠[]->val (norm q)=0->0 < nth (g ++ [left]) ((g ++ [left]).length - 1)):=by
    intro _ S;rw[List.length_append,List.length_singleton,Nat.add_sub_cancel,bI (Nat.le_refl _),Nat.sub_self,cD];rw[J] at S;rw[S] at M;omega
   have HL:Hid (lenOf v'=(g ++ [left]).length):=by show _=_; rw[hlv,List.length_append,D.out]; rfl
   have HO:fG (g ++ [left]):=by
    intro x hx;rcases List.mem_append.1 hx with e | e
    ·exact y x e
    ·simp at e; subst e; exact⟨hf0,hf1⟩
   clear j z I t B A E d M hat L F f s P r J;generalize aE q=K at *;generalize norm q=R at *;go_wp2_with fail;refine t3.mono ?_
   rintro e w6 ⟨rfl,rfl⟩;go_wp2;go_roundw
   case rel=>exact⟨g ++ [left],R,K,K,rfl,Q.symm,Nat.le_refl _,by omega,HL,hM,HO,hz6,hz4,HV,HT,hz3,fun i hi=>W i (by omega),by omega,HB⟩
   case measure =>
    rw[HL.out,Z.out,List.length_append,D.out,List.length_singleton];omega
  ·have hN0:lr=[]:=List.eq_nil_of_length_eq_zero (by have:=hN.out; omega);subst hN0;have hv:=f.out;rw[show val []=0 from rfl,Int.mul_zero,Int.add_zero] at hv;have ht:=fun h=>s.out h rfl
   have X:g.length<=2 * n + 1:=by
    have hg0:=gJ y;by_cases S:g=[]
    ·subst S; simp
    ·have hne:g.length≠0:=fun e=>S (List.eq_nil_of_length_eq_zero e)
     have hlast:=ht S
     have hsp:g=g.take (g.length - 1) ++ [nth g (g.length - 1)]:=by
      rw[<- dQ (by omega),show g.length - 1 + 1=g.length from by omega,List.take_of_length_le (Nat.le_refl _)]
     have hgv:ec g=ec (g.take (g.length - 1)) + 10000000000000000000 ^ (g.length - 1) * nth g (g.length - 1):=by
      conv=>lhs; rw[hsp]
      rw[kI,List.length_take,Nat.min_eq_left (by omega)]; simp[ec]
     have h3:=gJ (l:=g.take (g.length - 1)) (fun x hx=>y x (List.mem_of_mem_take hx));have:=lQ (V:=val l) (R:=nth g (g.length - 1)) (k:=g.length - 1) (by omega) (by omega) hV;omega
   have U:eh wr w.heap.size _ g:=B.mono (by omega);clear f s Z B hN;have HV:=(show Hid _ from hv)
   clear hv;go_wp2;go_ret;exact⟨_,g,rfl,U,y,HV.out,ht,X,P⟩
end
end Go.Proofs.YthfepflplbahkaaGreatDoor
namespace Go.Proofs.YthfepflplbahkaaGreatDoor
open Go.RowKit Lim
section
variable {g l:List Int}{w:World}{v:Value}
def rP(u:Int)(wx:World):Prop:=Calls Tryz.prog 102 #[.slice none 0 0,.int .u64 u,.int .i64 10] wx fun e w'=>∃ v d,e=.returned v/\fw w' wx.heap.size v d/\fB d/\dvI d=u/\0 < d.length/\d.length<=20/\nth d 0≠48/\Below wx.heap.size wx w'
theorem jM:Tryz.prog.underlying 9=some .string:=by kernel_rfl
theorem rp:Tryz.prog.underlying 5=some (.int .u8):=by kernel_rfl
theorem oF(d:List Int):∀ r:ByteArray,(d.foldl (fun r n=>r.push (UInt8.ofNat n.toNat)) r).data.toList=r.data.toList ++ d.map (fun n=>UInt8.ofNat n.toNat):=by
 induction d with
 | nil=>intro r; simp
 | cons c d ih=>intro r; rw[List.foldl_cons,ih]; simp
theorem nZ{i:Nat}(h:i < g.length):ec (g.drop i)=nth g i + 10000000000000000000 * ec (g.drop (i + 1)):=by
 rw[List.drop_eq_getElem_cons h,ec,bS h]
theorem fw.open{B:Nat}(h:fw w B v l)(d:0 < l.length):∃ g c,v=.slice (some ⟨g,0,none⟩) l.length c/\l.length<=c/\B<=g/\AtB w (some ⟨g,0,none⟩) g 0 l/\dB w g 0 l.length:=by
 obtain⟨_,b⟩:=h;rcases b with⟨rfl,h0⟩ | ⟨g,cap,cur,rfl,hB,hh,hle,hmx,hsz,htk⟩
 ·omega
 ·refine⟨g,cap,rfl,hle,hB,⟨.inr rfl,fun i hi => ?_⟩,fun i hi => ?_⟩
  ·have e:cur.toList[i]? = some (.int .u8 (nth l i)):=by
    have a:(cur.toList.take (l.length * 1))[i]? = some (.int .u8 (nth l i)):=by
     rw[htk,List.getElem?_map,List.getElem?_eq_getElem hi,bS hi]; rfl
    rwa [Nat.mul_one,List.getElem?_take_of_lt hi] at a
   simp only[World.cell?,hh];simpa using e
  ·simp[World.frozen?,hh]
structure pR(s:ByteArray)(n:Int):Prop where
 bytes:∃ d:List Int,s.data.toList.map (fun c=>(c.toNat:Int))=d/\fB d/\dvI d=n/\0 < d.length/\(d.length=1\/nth d 0≠48)
theorem z8(ao:Option Addr)(n c b o:Nat)(l:List Int)(w:World)(hl:l.length=n)(hc:n<=c)(hbig:n<=4294967296)(wl:Words l)(ha:At w ao b o l)(K:∀ g,fG g->ec g=val l->g≠[]->0 < nth g (g.length - 1)->∀ wx,Below w.heap.size w wx->rP (nth g (g.length - 1)) wx) :
  Calls Tryz.prog 67 #[.slice ao n c] w fun e w'=>∃ s,e=.returned (.string s)/\pR s (val l)/\s.size<=40 * n + 40/\Below w.heap.size w w':=by
 go_enter Tryz.func67,Tryz.ntmps67;go_wp2_with fail;refine(kz ao n c b o l w hl hc (by omega) wl ha).mono ?_
 rintro e Z ⟨v,g,rfl,hmg,X,y,F,hgl,B⟩;obtain⟨ag,cg,rfl,hgc,_,bg,V,hBg,t,_⟩:=hmg.open;have ae:=B.size;by_cases p:g=[]
 ·subst p
  have ac:val l=0:=by rw[<- y]; rfl
  have HV0:=(show Hid _ from ac)
  clear y ac;go_wp2;go_ret;refine⟨_,rfl,⟨[48],rfl,fun c hc=>by rw[List.mem_singleton] at hc; subst hc; decide,by rw[HV0.out]; rfl,by simp,.inl rfl⟩,?_,B⟩
  show 1<=_; omega
 ·have hgp:0 < g.length:=Nat.pos_of_ne_zero fun e=>p (List.eq_nil_of_length_eq_zero e)
  rcases V with e | rfl
  ·exact absurd e p
  have tA:=K g X y p (F p);have HGV:=(show Hid _ from y)
  have f:=t.cell (g.length - 1) (by omega);rw[Nat.zero_add] at f;obtain⟨m,hm⟩:∃ m,g.length=m + 1:=⟨g.length - 1,by omega⟩
  rw[hm,Nat.add_sub_cancel] at f tA;have O:=(show Hid _ from hm)
  rw[hm]
  have hu0:(m:Int) < (m:Int) + 1:=by omega
  clear y F K hm hgc
  have hmg1:m + 1<=2 * n + 1:=by have:=O.out; omega
  generalize hU:nth g m=U at *;have HU:=(show Hid _ from hU)
  clear hU;go_wp2_with fail;have tB:=tA Z B;unfold rP at tB;clear tA;refine tB.mono ?_
  rintro e w2 ⟨v2,d0,rfl,Y,R,G,E,Q,I,D⟩;have hsz2:=D.size;have aa:=t.keep D;go_wp2_with fail;go_loopw [5,21] (fun tt ti wr=>∃ (k:Nat) (d:List Int),k<=m/\ti=.int .i64 k/\fw wr Z.heap.size tt d/\fB d/\Hid (dvI d=ec (g.drop (m - k)))/\0 < d.length/\d.length<=20 + 19 * k/\nth d 0≠48/\Below Z.heap.size Z wr) (fun _ ti _=>m - (intOf ti).toNat)
  case atStart=>exact⟨0,d0,Nat.zero_le _,rfl,Y,R,by show _=_; rw[G,Nat.sub_zero,nZ (by have:=O.out; omega),List.drop_of_length_le (by have:=O.out; omega),HU.out]; simp[ec],E,by omega,I,D⟩
  case round =>
   clear Y R G E Q I D aa;obtain⟨k,d,hk,rfl,T,N,C,z,hdl1,H,A⟩:=hrel;by_cases hlt:k < m
   ·obtain⟨h,hh⟩:∃ h:Nat,(m:Int) - 1 - k=h:=⟨m - 1 - k,by omega⟩
    have hh1:(h:Int) < (m:Int) + 1:=by omega
    have hhm:m - k=h + 1:=by omega
    have J:=t.below (A.mono (Nat.le_refl _)) (.inr (aI f));have hcw:=J.cell h (by have:=O.out; omega);rw[Nat.zero_add] at hcw;have W:=X (nth g h) (ll (by have:=O.out; omega));have HD:=C.out;rw[hhm] at HD
    have HD:Hid (dvI d=ec (g.drop (h + 1))):=HD
    have HG:Hid (ec (g.drop (m - (k + 1)))=nth g h + 10000000000000000000 * ec (g.drop (h + 1))):=by
     show _=_
     rw[show m - (k + 1)=h from by omega,nZ (by have:=O.out; omega)]
    have HX:Hid (nth g h=nth g h):=rfl;generalize nth g h=x at *;clear J C;go_wp2_with (go_at_call 103; refine(kW Z.heap.size _ d x _ A.size T (by omega) W.1 W.2).mono ?_; rintro e w5 ⟨v5,q,rfl,hm5,hq5,hql,hqv,hb5⟩);go_roundw
    case rel =>
     refine⟨k + 1,d ++ q,by omega,by go_num,hm5,?_,?_,by simp; omega,by simp; omega,?_,A.trans hb5⟩
     ·intro c hc;rcases List.mem_append.1 hc with e | e
      ·exact N c e
      ·exact hq5 c e
     ·show _=_
      rw[fK,hql,hqv,HD.out,HG.out,show (10:Int) ^ 19=10000000000000000000 from rfl]; grind
     ·rw[cQ z]; exact H
    case measure=>simp[intOf]; omega
   ·have hkm:k=m:=by omega
    subst hkm;rw[Nat.sub_self,List.drop_zero] at C;obtain⟨gb,cb,rfl,hdc,hgb,ab,_⟩:=T.open z
    have i:=run_loadCells_list (P:=Tryz.prog) wr ⟨gb,0,none⟩ (d.map (Value.int .u8)) (fun j u hu=>by
     rw[List.getElem?_map] at hu
     have M:j < d.length:=by
      rcases Nat.lt_or_ge j d.length with M | M
      ·exact M
      ·rw[List.getElem?_eq_none M] at hu; simp at hu
     rw[List.getElem?_eq_getElem M] at hu;simp at hu;subst hu;have:=ab.cell j M;rw[bS M] at this;rw[<- this];by_cases ad:j=0
     ·subst ad; exact congrArg wr.cell? (by simp[Addr.add])
     ·exact congrArg wr.cell? (by simp[Addr.add,ad]))
    rw[List.length_map] at i;have L:=(run_convert_bytes_string (P:=Tryz.prog) wr 96 9 5 (some ⟨gb,0,none⟩) d.length cb cA rp jM).trans (run_bytesToString wr ⟨gb,0,none⟩ d.length cb d i);obtain⟨S,hS⟩:∃ S,d.foldl (fun r n=>r.push (UInt8.ofNat n.toNat)) ByteArray.empty=S:=⟨_,rfl⟩
    rw[hS] at L;have HS:=(show Hid _ from hS)
    clear hS i
    have HB:Below w.heap.size w wr:=B.trans (A.mono ae);go_wp2;go_ret;have e1:=oF d ByteArray.empty;rw[HS.out] at e1
    have e2:S.data.toList.map (fun c=>(c.toNat:Int))=d:=by
     rw[e1];simp only[show ByteArray.empty.data.toList=[] from rfl,List.nil_append,List.map_map]
     conv=>rhs; rw[<- List.map_id d]
     apply List.map_congr_left;intro c hc;have:=N c hc;simp[Function.comp,UInt8.toNat_ofNat'];omega
    refine⟨S,rfl,⟨d,e2,N,by rw[C.out,HGV.out],z,.inr H⟩,?_,HB⟩;have:S.size=d.length:=by rw[<- e2]; simp
    omega
end
end Go.Proofs.YthfepflplbahkaaGreatDoor
namespace Go.Proofs
open Go.Shelf
def Tryz.rI:Go.Shelf.Ren:=⟨fun | 162=>68 | 232=>104 | 227=>105 | 234=>106 | 236=>107 | 228=>162 | 271=>163 | 151=>164 | 120=>203 | 197=>204 | 152=>205 | 260=>235 | 137=>236 | 119=>237 | 224=>238 | 225=>239 | 217=>253 | 266=>259 | n=>n,fun | 9=>9 | 4=>4 | 3=>3 | 5=>5 | 117=>177 | 116=>176 | 0=>0 | 124=>180 | 21=>21 | 105=>247 | 46=>217 | 119=>229 | 139=>334 | 138=>333 | n=>n,fun | 3=>3 | 4=>4 | n=>n⟩
theorem Tryz.CU:Go.Proofs.Lays.n162 Tryz.prog Tryz.rI:={
 mixed:=by kernel_rfl
 f119:=Tryz.func237.trans (congrArg some (by kernel_rfl))
 f120:=Tryz.func203.trans (congrArg some (by kernel_rfl))
 f137:=Tryz.func236.trans (congrArg some (by kernel_rfl))
 f151:=Tryz.func164.trans (congrArg some (by kernel_rfl))
 f152:=Tryz.func205.trans (congrArg some (by kernel_rfl))
 f162:=Tryz.func68.trans (congrArg some (by kernel_rfl))
 f197:=Tryz.func204.trans (congrArg some (by kernel_rfl))
 f217:=Tryz.func253.trans (congrArg some (by kernel_rfl))
 f224:=Tryz.func238.trans (congrArg some (by kernel_rfl))
 f225:=Tryz.func239.trans (congrArg some (by kernel_rfl))
 f227:=Tryz.func105.trans (congrArg some (by kernel_rfl))
 f228:=Tryz.func162.trans (congrArg some (by kernel_rfl))
 f232:=Tryz.func104.trans (congrArg some (by kernel_rfl))
 f234:=Tryz.func106.trans (congrArg some (by kernel_rfl))
 f236:=Tryz.func107.trans (congrArg some (by kernel_rfl))
 f260:=Tryz.func235.trans (congrArg some (by kernel_rfl))
 f266:=Tryz.func259.trans (congrArg some (by kernel_rfl))
 f271:=Tryz.func163.trans (congrArg some (by kernel_rfl))
 t0:=Tryz.underlying0
 a0:=Tryz.isAgg0
 z0:=Tryz.sizeOf0
 v0:=Tryz.zeroValue0
 t3:=Tryz.underlying3
 a3:=Tryz.isAgg3
 z3:=Tryz.sizeOf3
 v3:=Tryz.zeroValue3
 t4:=Tryz.underlying4
 a4:=Tryz.isAgg4
 z4:=Tryz.sizeOf4
 v4:=Tryz.zeroValue4
 t5:=Tryz.underlying5
 a5:=Tryz.isAgg5
 z5:=Tryz.sizeOf5
 v5:=Tryz.zeroValue5
 t9:=Tryz.underlying9
 a9:=Tryz.isAgg9
 z9:=Tryz.sizeOf9
 v9:=Tryz.zeroValue9
 t21:=Tryz.underlying21
 a21:=Tryz.isAgg21
 z21:=Tryz.sizeOf21
 v21:=Tryz.zeroValue21
 t46:=Tryz.underlying217
 a46:=Tryz.isAgg217
 z46:=Tryz.sizeOf217
 v46:=Tryz.zeroValue217
 t105:=Tryz.underlying247
 a105:=Tryz.isAgg247
 z105:=Tryz.sizeOf247
 v105:=Tryz.zeroValue247
 t116:=Tryz.underlying176
 a116:=Tryz.isAgg176
 z116:=Tryz.sizeOf176
 t117:=Tryz.underlying177
 a117:=Tryz.isAgg177
 z117:=Tryz.sizeOf177
 v117:=Tryz.zeroValue177
 t119:=Tryz.underlying229
 a119:=Tryz.isAgg229
 z119:=Tryz.sizeOf229
 t124:=Tryz.underlying180
 a124:=Tryz.isAgg180
 z124:=Tryz.sizeOf180
 v124:=Tryz.zeroValue180
 t138:=Tryz.underlying333
 a138:=Tryz.isAgg333
 z138:=Tryz.sizeOf333
 v138:=Tryz.zeroValue333
 t139:=Tryz.underlying334
 a139:=Tryz.isAgg334
 z139:=Tryz.sizeOf334
 v139:=Tryz.zeroValue334
 g3:=by kernel_rfl
 g4:=by kernel_rfl }
open Go.RowKit in
theorem Tryz.strings_TrimRight_one (s:ByteArray) (c:UInt8) (hc:c.toNat < 128) (w:World) (hs:s.size<=9223372036854775807) :
  Calls Tryz.prog 68 #[.string s,.string ⟨#[c]⟩] w fun e w'=>e=.returned (.string ⟨(Lib.trimRightB s.data.toList c).toArray⟩)/\w'=w:=Any.strings_TrimRight_one Tryz.CU s c hc w hs
def Tryz.pS:Go.Shelf.Ren:=⟨fun | 288=>160 | 283=>199 | 284=>200 | 285=>201 | 286=>202 | 129=>139 | 317=>231 | 318=>232 | 319=>233 | 320=>234 | 337=>251 | 338=>252 | n=>n,fun | 37=>96 | 53=>22 | 3=>3 | 4=>4 | 9=>9 | 171=>284 | 0=>0 | 173=>286 | 212=>314 | 51=>315 | 5=>5 | 20=>20 | 213=>316 | 46=>217 | 232=>339 | 233=>340 | n=>n,fun | 17=>2 | 18=>6 | 19=>7 | n=>n⟩
theorem Tryz.yf:Go.Proofs.LaysM.n288 Tryz.prog Tryz.pS:={
 mixed:=by kernel_rfl
 f129:=Tryz.func139.trans (congrArg some (by kernel_rfl))
 f283:=Tryz.func199.trans (congrArg some (by kernel_rfl))
 f284:=Tryz.func200.trans (congrArg some (by kernel_rfl))
 f285:=Tryz.func201.trans (congrArg some (by kernel_rfl))
 f286:=Tryz.func202.trans (congrArg some (by kernel_rfl))
 f288:=Tryz.func160.trans (congrArg some (by kernel_rfl))
 f317:=Tryz.func231.trans (congrArg some (by kernel_rfl))
 f318:=Tryz.func232.trans (congrArg some (by kernel_rfl))
 f319:=Tryz.func233.trans (congrArg some (by kernel_rfl))
 f320:=Tryz.func234.trans (congrArg some (by kernel_rfl))
 f337:=Tryz.func251.trans (congrArg some (by kernel_rfl))
 f338:=Tryz.func252.trans (congrArg some (by kernel_rfl))
 t0:=Tryz.underlying0
 a0:=Tryz.isAgg0
 z0:=Tryz.sizeOf0
 v0:=Tryz.zeroValue0
 t3:=Tryz.underlying3
 a3:=Tryz.isAgg3
 z3:=Tryz.sizeOf3
 v3:=Tryz.zeroValue3
 t4:=Tryz.underlying4
 a4:=Tryz.isAgg4
 z4:=Tryz.sizeOf4
 v4:=Tryz.zeroValue4
 t5:=Tryz.underlying5
 a5:=Tryz.isAgg5
 z5:=Tryz.sizeOf5
 v5:=Tryz.zeroValue5
 t9:=Tryz.underlying9
 a9:=Tryz.isAgg9
 z9:=Tryz.sizeOf9
 v9:=Tryz.zeroValue9
 t20:=Tryz.underlying20
 a20:=Tryz.isAgg20
 z20:=Tryz.sizeOf20
 v20:=Tryz.zeroValue20
 t37:=Tryz.underlying96
 a37:=Tryz.isAgg96
 z37:=Tryz.sizeOf96
 v37:=Tryz.zeroValue96
 t46:=Tryz.underlying217
 a46:=Tryz.isAgg217
 z46:=Tryz.sizeOf217
 v46:=Tryz.zeroValue217
 t51:=Tryz.underlying315
 a51:=Tryz.isAgg315
 z51:=Tryz.sizeOf315
 v51:=Tryz.zeroValue315
 t53:=Tryz.underlying22
 a53:=Tryz.isAgg22
 z53:=Tryz.sizeOf22
 v53:=Tryz.zeroValue22
 t171:=Tryz.underlying284
 a171:=Tryz.isAgg284
 z171:=Tryz.sizeOf284
 v171:=Tryz.zeroValue284
 t173:=Tryz.underlying286
 a173:=Tryz.isAgg286
 z173:=Tryz.sizeOf286
 v173:=Tryz.zeroValue286
 t212:=Tryz.underlying314
 a212:=Tryz.isAgg314
 z212:=Tryz.sizeOf314
 v212:=Tryz.zeroValue314
 t213:=Tryz.underlying316
 a213:=Tryz.isAgg316
 z213:=Tryz.sizeOf316
 t232:=Tryz.underlying339
 a232:=Tryz.isAgg339
 z232:=Tryz.sizeOf339
 v232:=Tryz.zeroValue339
 t233:=Tryz.underlying340
 a233:=Tryz.isAgg340
 z233:=Tryz.sizeOf340
 v233:=Tryz.zeroValue340
 g17:=by kernel_rfl
 g18:=by kernel_rfl
 g19:=by kernel_rfl
 i0:=by kernel_rfl
 i3:=by kernel_rfl
 i4:=by kernel_rfl
 i5:=by kernel_rfl
 i9:=by kernel_rfl
 i20:=by kernel_rfl
 i37:=by kernel_rfl
 i46:=by kernel_rfl
 i51:=by kernel_rfl
 i53:=by kernel_rfl
 i171:=by kernel_rfl
 i173:=by kernel_rfl
 i212:=by kernel_rfl
 i232:=by kernel_rfl
 i233:=by kernel_rfl
 m17:=by kernel_rfl
 m18:=by kernel_rfl
 m19:=by kernel_rfl }
open Go.RowKit Go.Sort Go.Lib in
theorem Tryz.internal_strconv_AppendUint_10_small (B n u:Nat) (hu:u < 100) (c:Value) (xs:List Value) (w:World) (b:w.ownsRow B 5 1 c n xs) (d:B<=w.heap.size) (a:n + 20<=140737488355328) :
  Calls Tryz.prog 160 #[c,.int .u64 u,.int .i64 10] w fun e w'=>∃ v',e=.returned v'/\w'.ownsRow B 5 1 v' (n + (Lib.decDigits u).length) (xs ++ Lib.byteCells (Lib.decDigits u))/\Below B w w'/\Lib.OthersKept 5 none w w':=Any.internal_strconv_AppendUint_10_small Tryz.yf B n u hu c xs w b d a
end Go.Proofs
namespace Go.Proofs.YthfepflplbahkaaGreatDoor
open Go.RowKit Lim
section
variable {u:Nat}{e:Ending}
theorem rv{n:Nat}(h:n < 256):(UInt8.ofNat n).toNat=n:=by simp[Nat.mod_eq_of_lt h]
theorem Dk(u:Nat):fB ((Lib.decDigits u).map fun c=>(c.toNat:Int))/\dvI ((Lib.decDigits u).map fun c=>(c.toNat:Int))=u/\0 < (Lib.decDigits u).length/\(0 < u->nth ((Lib.decDigits u).map fun c=>(c.toNat:Int)) 0≠48):=by
 induction u using Nat.strongRecOn with
 | ind u ih =>
  by_cases h:u < 10
  ·rw[Lib.decDigits,dif_pos h]
   have e:(UInt8.ofNat (48 + u)).toNat=48 + u:=rv (by omega);simp only[List.map_cons,List.map_nil,e];refine⟨fun c hc => ?_,?_,by simp,fun a => ?_⟩
   ·rw[List.mem_singleton] at hc; omega
   ·simp[dvI]; omega
   ·rw[cD]; omega
  ·rw[Lib.decDigits,dif_neg h];obtain⟨i1,i2,i3,i4⟩:=ih (u / 10) (by omega)
   have e:(UInt8.ofNat (48 + u % 10)).toNat=48 + u % 10:=rv (by omega);simp only[List.map_append,List.map_cons,List.map_nil,e];refine⟨i1.snoc (by omega) (by omega),?_,by simp,fun _ => ?_⟩
   ·rw[lL,i2]; omega
   ·rw[cQ (by simpa using i3)]; exact i4 (by omega)
theorem mT(l:List UInt8):Lib.byteCells l=(l.map fun c=>(c.toNat:Int)).map (Value.int .u8):=by
 simp[Lib.byteCells]
theorem zQ{a w':World}(g:0 < u)(b:(Lib.decDigits u).length<=20)(h:∃ v',e=.returned v'/\w'.ownsRow a.heap.size 5 1 v' (0 + (Lib.decDigits u).length) ([] ++ Lib.byteCells (Lib.decDigits u))/\Below a.heap.size a w'/\Lib.OthersKept 5 none a w') :
  ∃ v d,e=.returned v/\fw w' a.heap.size v d/\fB d/\dvI d=(u:Int)/\0 < d.length/\d.length<=20/\nth d 0≠48/\Below a.heap.size a w':=by
 obtain⟨v,rfl,c,f,_⟩:=h;obtain⟨d1,d2,d3,d4⟩:=Dk u;refine⟨v,_,rfl,?_,d1,d2,by simpa using d3,by simpa using b,d4 g,f⟩;unfold fw;rw[<- mT,List.length_map];rw[Nat.zero_add,List.nil_append] at c;exact c
theorem dec20(h:u < 18446744073709551616):(Lib.decDigits u).length<=20:=by
 by_cases a:u=0
 ·subst a; rw[Lib.decDigits_one (by decide)]; simp
 ·have:=Lib.numDigits_eq u (by omega) h;rw[Lib.decDigits_length];split at this<;>omega
theorem wY(u:Nat)(i:0 < u)(f:u < 100)(b:World):rP (u:Int) b:=by
 unfold rP
 have c:b.ownsRow b.heap.size 5 1 (.slice none 0 0) 0 []:=World.ownsRow_nil _ _ _ _;have t:=Tryz.internal_strconv_AppendUint_10_small b.heap.size 0 u f (.slice none 0 0) [] b c (Nat.le_refl _) (by decide);go_enter Tryz.func102,Tryz.ntmps102;go_wp2_with fail;refine t.mono ?_
 intro e j h;have g:=zQ i (dec20 (by omega)) h;obtain⟨v,d,rfl,r⟩:=g;go_wp2;go_ret;exact⟨v,d,rfl,r⟩
end
end Go.Proofs.YthfepflplbahkaaGreatDoor
namespace Go.Proofs.YthfepflplbahkaaGreatDoor
open Go.RowKit Lim
section
variable {k:Nat}{x:Int}
def dm:Nat->Int->List Int
 | 0,_=>[]
 | k + 1,x=>dm k (x / 10) ++ [48 + x % 10]
theorem dD(k:Nat)(x:Int):(dm k x).length=k:=by
 induction k generalizing x with
 | zero=>rfl
 | succ k ih=>simp[dm,ih]
theorem lT(h:0<=x):fB (dm k x):=by
 induction k generalizing x with
 | zero=>intro c hc; simp[dm] at hc
 | succ k ih=>exact(ih (by omega)).snoc (by omega) (by omega)
theorem qJ(h:0<=x):dvI (dm k x)=x % 10 ^ k:=by
 induction k generalizing x with
 | zero=>simp[dm,dvI]
 | succ k ih =>
  rw[dm,lL,ih (by omega),Int.pow_succ]
  have d:(0:Int) < 10 ^ k:=Int.pow_pos (by decide);have e1:=Int.mul_ediv_add_emod (x / 10) (10 ^ k);have e2:=Int.mul_ediv_add_emod x 10;have e3:=Int.emod_nonneg (x / 10) (show (10:Int) ^ k≠0 by omega);have e:=Int.emod_lt_of_pos (x / 10) d;generalize x / 10 % 10 ^ k=r at *;generalize hq:x / 10 / 10 ^ k=q at *;generalize (10:Int) ^ k=P at *
  have c:x=(10 * r + x % 10) + (P * 10) * q:=by
   have:10 * (P * q + r) + x % 10=x:=by rw[e1]; omega
   rw[<- this]; rw[Int.mul_add]; have:10 * (P * q)=P * 10 * q:=by rw[<- Int.mul_assoc,Int.mul_comm 10 P]
   omega
  conv=>rhs; rw[c]
  rw[Int.add_mul_emod_self_left,Int.emod_eq_of_lt (a:=10 * r + x % 10) (b:=P * 10) (by omega) (by omega)];omega
theorem mQ(k m:Nat)(x:Int)(h:0<=x):dm (k + m) x=dm k (x / 10 ^ m) ++ dm m x:=by
 induction m generalizing x with
 | zero=>simp[dm]
 | succ m ih =>
  rw[Nat.add_succ,dm,ih _ (by omega),dm,List.append_assoc];congr 2
  rw[Int.pow_succ,Int.mul_comm,<- Int.ediv_ediv_of_nonneg (by decide)]
theorem yG(k:Nat)(x:Int):dm (k + 2) x=dm k (x / 100) ++ [48 + x % 100 / 10,48 + x % 100 % 10]:=by
 rw[dm,dm,List.append_assoc]
 have e1:x / 10 / 10=x / 100:=by omega
 have e2:x / 10 % 10=x % 100 / 10:=by omega
 have e3:x % 10=x % 100 % 10:=by omega
 rw[e1,e2,e3]; rfl
end
end Go.Proofs.YthfepflplbahkaaGreatDoor
namespace Go.Proofs.YthfepflplbahkaaGreatDoor
open Go.RowKit Lim
section
variable {l:List Int}
theorem iq(h:fB l):0<=dvI l/\dvI l < 10 ^ l.length:=by
 induction l with
 | nil=>simp[dvI]
 | cons c l ih =>
  have hc:=h c (by simp);have:=ih fun x hx=>h x (by simp[hx])
  have e:dvI (c :: l)=(c - 48) * 10 ^ l.length + dvI l:=by rw[show c :: l=[c] ++ l from rfl,fK]; simp[dvI]
  have a:(0:Int) < 10 ^ l.length:=Int.pow_pos (by decide)
  have b:0<=(c - 48) * 10 ^ l.length:=Int.mul_nonneg (by omega) (Int.le_of_lt a)
  have d:(c - 48) * 10 ^ l.length<=9 * 10 ^ l.length:=Int.mul_le_mul_of_nonneg_right (by omega) (Int.le_of_lt a);rw[e,List.length_cons,Int.pow_succ]; omega
theorem dvI_ge(h:fB l)(d:0 < l.length)(a:nth l 0≠48):10 ^ (l.length - 1)<=dvI l:=by
 cases l with
 | nil=>simp at d
 | cons c l =>
  rw[cD] at a;have hc:=h c (by simp);have hb:=iq (l:=l) fun x hx=>h x (by simp[hx])
  have e:dvI (c :: l)=(c - 48) * 10 ^ l.length + dvI l:=by rw[show c :: l=[c] ++ l from rfl,fK]; simp[dvI]
  have b:(0:Int) < 10 ^ l.length:=Int.pow_pos (by decide);have:1 * 10 ^ l.length<=(c - 48) * 10 ^ l.length:=Int.mul_le_mul_of_nonneg_right (by omega) (Int.le_of_lt b);rw[e,List.length_cons,Nat.add_sub_cancel]; omega
theorem oU:∀ {a b:List Int},fB a->fB b->a.length=b.length->dvI a=dvI b->a=b
 | [],[],_,_,_,_=>rfl
 | x :: a,y :: b,ha,hb,hl,hv=>by
  have ha':fB a:=fun z g=>ha z (by simp[g])
  have f:fB b:=fun z g=>hb z (by simp[g])
  have d:a.length=b.length:=by simpa using hl
  have i:=iq ha';have j:=iq f
  have e1:dvI (x :: a)=(x - 48) * 10 ^ b.length + dvI a:=by rw[show x :: a=[x] ++ a from rfl,fK,d]; simp[dvI]
  have e2:dvI (y :: b)=(y - 48) * 10 ^ b.length + dvI b:=by rw[show y :: b=[y] ++ b from rfl,fK]; simp[dvI]
  rw[e1,e2] at hv;rw[d] at i
  have h:(0:Int) < 10 ^ b.length:=Int.pow_pos (by decide)
  have e:x=y:=by
   rcases Int.lt_trichotomy x y with c | c | c
   ·have:(x - 48 + 1) * 10 ^ b.length<=(y - 48) * 10 ^ b.length:=Int.mul_le_mul_of_nonneg_right (by omega) (Int.le_of_lt h);rw[Int.add_mul] at this; omega
   ·exact c
   ·have:(y - 48 + 1) * 10 ^ b.length<=(x - 48) * 10 ^ b.length:=Int.mul_le_mul_of_nonneg_right (by omega) (Int.le_of_lt h);rw[Int.add_mul] at this; omega
  subst e;rw[oU ha' f d (by omega)]
theorem tQ{a b:List Int}(c:fB a)(hb:fB b)(f:0 < a.length)(d:0 < b.length)(ka:a.length=1\/nth a 0≠48)(kb:b.length=1\/nth b 0≠48)(hv:dvI a=dvI b):a=b:=by
 apply oU c hb _ hv
 have key:∀ {a b:List Int},fB a->fB b->0 < a.length->0 < b.length->(b.length=1\/nth b 0≠48)->dvI a=dvI b->¬ a.length < b.length:=by
  intro a b c hb f d kb hv g;have i:=(iq c).2;rcases kb with e | e
  ·omega
  ·have h:=dvI_ge hb d e;have:=zy (show a.length<=b.length - 1 by omega);omega
 have k1:=key c hb f d kb hv;have k2:=key hb c d f ka hv.symm;omega
theorem Bf{S:ByteArray}{n:Int}(h:pR S n)(l:List UInt8)(m:(l.map (fun c=>(c.toNat:Int))).all (fun c=>decide (48<=c/\c<=57))=true)(hv:dvI (l.map (fun c=>(c.toNat:Int)))=n)(r:0 < l.length)(p:l.length=1\/nth (l.map (fun c=>(c.toNat:Int))) 0≠48):S=⟨l.toArray⟩:=by
 obtain⟨d,e,i,f,g,j⟩:=h.bytes
 have o:fB (l.map (fun c=>(c.toNat:Int))):=fun c hc=>by
  rw[List.all_eq_true] at m; simpa using m c hc
 have:=tQ i o g (by simpa using r) j (by simpa using p) (f.trans hv.symm);rw[<- e] at this
 have k:S.data.toList=l:=List.map_inj_right (fun a b q=>UInt8.toNat_inj.1 (by omega)) |>.1 this
 cases S with
 | mk arr=>simp at k; simp[<- k]
end
end Go.Proofs.YthfepflplbahkaaGreatDoor
namespace Go.Proofs.YthfepflplbahkaaGreatDoor
open Go.RowKit Lim
section
variable {w w':World}{ao:Option Addr}{n c X g:Nat}{x:Int}{l d:List Int}{ops:Array Oper}{K:Act->World->Prop}
theorem nSmall(h:dW w ao n c x)(hn:n<=1099511627776)(hx:x < 18446744073709551616) :
  Calls Tryz.prog 110 #[.slice ao n c] w fun e w'=>e=.returned (.tuple #[.int .u64 x,.bool true])/\Below w.heap.size w w':=by
 obtain⟨b,o,l,g,p,f,i⟩:=h.ex
 have d:aE l=n:=f.2.1.trans g
 have m:n<=1:=by
  rcases Nat.lt_or_ge 1 n with e | e
  ·have q:=fy f.1 (by omega);have r:=gM (show 1<=aE l - 1 by omega);rw[f.2.2] at q
   have h7:(18446744073709551616:Int) ^ 1=18446744073709551616:=by decide
   omega
  ·exact e
 have t:=bj ao n c l w g p (by omega) i.cells;rw[d] at t;have hv:=f.2.2;rcases(show n=0\/n=1 by omega) with e | e
 ·subst e;obtain rfl:l=[]:=List.eq_nil_of_length_eq_zero g
  have j:x=0:=by rw[<- hv]; rfl
  subst j;clear hv d;go_enter Tryz.func110,Tryz.ntmps110;go_wp2_with fail;refine t.mono ?_
  rintro e w' ⟨rfl,rfl⟩;go_wp2;go_ret2;exact⟨rfl,Below.refl _ _⟩
 ·subst e;obtain⟨y,rfl⟩:∃ y,l=[y]:=by
   match l,g with
   | [y],_=>exact⟨y,rfl⟩
  have hy:y=x:=by rw[<- hv]; simp[val]
  subst hy;have hc:=i.cell 0 (by simp);obtain rfl:ao=some ⟨b,o,none⟩:=by
   rcases i.loc with e | e
   ·simp at e
   ·exact e
  rw[cD,Nat.add_zero] at hc;clear hv d i f;go_enter Tryz.func110,Tryz.ntmps110;go_wp2_with fail;refine t.mono ?_
  rintro e w' ⟨rfl,rfl⟩;go_wp2;go_ret2;exact⟨rfl,Below.refl _ _⟩
theorem Cj(i:Nat)(h:i < 100):∀ j v,[Value.int .u8 (48 + (i:Int) / 10),Value.int .u8 (48 + (i:Int) % 10)][j]? = some v->∀ (w:World) (gp:Nat),dx w gp 183 (cI 100)->w.cell? ((⟨gp,i * 2,none⟩:Addr).add j)=some v:=by
 intro j v a w gp R;have c:=bU 100;obtain⟨b,p1⟩:=vY h
 match j,a with
 | 0,a =>
  simp at a; subst a;have:=R.cell (i:=2 * i) (by omega);rw[b] at this;rw[<- this];exact congrArg w.cell? (by simp[Addr.add,Nat.mul_comm])
 | 1,a =>
  simp at a; subst a;have:=R.cell (i:=2 * i + 1) (by omega);rw[p1] at this;rw[<- this];exact congrArg w.cell? (by simp[Addr.add,Nat.mul_comm])
 | j + 2,a=>simp at a
theorem Dm(g E:Nat)(h:E<=34)(W:World):(Instr.sliceAt 181 (.pointer (some ⟨g,0,none⟩)) (some (.int .i64 (E:Int))) none none).run Tryz.prog W=.ok (.slice (some ⟨g,E,none⟩) (36 - E) (36 - E)) W:=by
 have a:Tryz.prog.arrayLen 181=36:=by kernel_rfl
 have b:Tryz.prog.elem 181=5:=by kernel_rfl
 have hu:Tryz.prog.underlying 181=some (.array (Tryz.prog.arrayLen 181) (Tryz.prog.elem 181)):=by kernel_rfl
 have hs:(sizeOf 5).run Tryz.prog W=.ok 1 W:=by kernel_rfl
 rw[run_sliceAt_array_l W 181 ⟨g,0,none⟩ hu .i64 (E:Int) (by omega) (by rw[a]; omega),b,hs,a];simp only[Result.andThen,slicedAt,Int.toNat_natCast,Nat.mul_one];rw[if_neg (by omega)];congr 3
 unfold Addr.add;split<;>simp_all
theorem slice2(g o:Nat)(W:World):(Instr.sliceAt 182 (.pointer (some ⟨g,o,none⟩)) none none none).run Tryz.prog W=.ok (.slice (some ⟨g,o,none⟩) 2 2) W:=by
 have a:Tryz.prog.arrayLen 182=2:=by kernel_rfl
 have b:Tryz.prog.elem 182=5:=by kernel_rfl
 have hu:Tryz.prog.underlying 182=some (.array (Tryz.prog.arrayLen 182) (Tryz.prog.elem 182)):=by kernel_rfl
 have hs:(sizeOf 5).run Tryz.prog W=.ok 1 W:=by kernel_rfl
 rw[run_sliceAt_array_all W 182 ⟨g,o,none⟩ hu,b,hs,a];simp[Result.andThen,slicedAt,Addr.add]
theorem CE:(Tryz.prog.info? 5).map (·.size)=some 1:=by kernel_rfl
theorem sB{en k:Nat}(b:l.length=36)(he:en<=36)(a:2 * k + 2<=en) :
  splice ((l.take (en - 2 * k) ++ dm (2 * k) X ++ l.drop en).map (Value.int .u8)) (en - 2 * k - 2) [Value.int .u8 (48 + (((X / 100 ^ k % 100:Nat):Nat):Int) / 10),Value.int .u8 (48 + (((X / 100 ^ k % 100:Nat):Nat):Int) % 10)]
   = (l.take (en - 2 * (k + 1)) ++ dm (2 * (k + 1)) X ++ l.drop en).map (Value.int .u8):=by
 have hX:(0:Int)<=(X:Int):=by omega
 have e1:dm (2 * (k + 1)) (X:Int)=[48 + (((X / 100 ^ k % 100:Nat):Nat):Int) / 10,48 + (((X / 100 ^ k % 100:Nat):Nat):Int) % 10] ++ dm (2 * k) X:=by
  rw[show 2 * (k + 1)=2 + 2 * k by omega,mQ 2 (2 * k) _ hX];congr 1
  rw[show (2:Nat)=0 + 2 from rfl,yG]
  have e2:(X:Int) / 10 ^ (2 * k)=((X / 100 ^ k:Nat):Int):=by
   rw[Int.natCast_ediv];congr 1
   rw[Int.pow_mul];simp
  rw[e2];simp[dm]
 rw[e1]
 have hA:(l.take (en - 2 * k)).length=en - 2 * k:=by simp; omega
 unfold splice;simp only[List.map_append,List.append_assoc,List.map_cons,List.length_cons,List.length_nil,List.cons_append,List.nil_append];rw[List.take_append_of_le_length (by simp; omega),List.drop_append,List.drop_of_length_le (by simp; omega)];rw[<- List.map_take,List.take_take,Nat.min_eq_left (by omega),show en - 2 * k - 2=en - 2 * (k + 1) by omega];rw[List.length_map,hA,show en - 2 * (k + 1) + (0 + 1 + 1) - (en - 2 * k)=0 by omega];simp
theorem nI{P:Program}{o:Oper}{a:Act}{Q:Exit->Act->World->Prop}{E:Prop}(l:o.guard=none)(d s:Operand)(k sT:TypeId)(q:o.op=.call { callee:=.builtin .copy,args:=#[d,s],argTypes:=#[k,sT] })(elem:TypeId)(hu:P.underlying k=some (.slice elem))(m:(P.info? elem).map (·.size)=some 1)(g off dLen dCap:Nat)(ad:Addr)(sLen sCap:Nat)(r:a.eval d=.slice (some ⟨g,off,none⟩) dLen dCap)(hs:a.eval s=.slice (some ad) sLen sCap)(cur:List Value)(t:TypeId)(n:w.heap[g]? = some (.cells cur.toArray t (0,0)))(cs:List Value)(hn:cs.length=Nat.min sLen dLen)(f:∀ j v,cs[j]? = some v->w.cell? (ad.add j)=some v)(e:off + cs.length<=cur.length)(i:∀ v∈cs,v.oneCell'=true)(h:∀ w',Hid (w'.heap[g]? = some (.cells (splice cur off cs).toArray t (0,0)))->Hid (∀ b,b≠g->w'.heap[b]? = w.heap[b]?)->Hid (∀ B w0,B<=g->Below B w0 w->Below B w0 w')->K (a.put o.dst (goInt cs.length)) w') :
  if Region.wanted o (yielded ops a.tmps)=true then Oper.wp P o a w K Q else E:=by
 have hw:Region.wanted o (yielded ops a.tmps)=true:=by simp[Region.wanted,l]
 rw[if_pos hw];have c:=run_copy_row (P:=P) w k sT o.type elem g off dLen dCap ad sLen sCap cur.toArray t cs hu m n hn f (by simpa using e) i;unfold Oper.wp;simp[execOp,q,resolve,invoke,builtin,r,hs,c,Result.andThen];exact h _ (show _=_ by simpa[splice] using setRow_heap w g _ _ t _ n) (fun b hb=>setRow_other w g b _ hb) (fun B w0 i p=>below_setRow p i _)
theorem xO{gt f:Nat}(en:Nat)(h:dW w ao n c (X:Int))(hn:n<=1099511627776)(hx:X < 1000000000000000000)(T:dx w gt 181 l)(hl:l.length=36)(Z:18<=en)(u:en<=36)(m:dx w f 183 (cI 100))(J:gt≠f) :
  Calls Tryz.prog 109 #[.int .i64 en,.slice ao n c,.pointer (some ⟨gt,0,none⟩),.pointer (some ⟨f,0,none⟩)] w fun e w'=>e=.returned (.tuple #[])/\dx w' gt 181 (l.take (en - 18) ++ dm 18 X ++ l.drop en)/\(∀ B w0,B<=gt->Below B w0 w->Below B w0 w')/\(∀ b,b < w.heap.size->b≠gt->w'.heap[b]? = w.heap[b]?):=by
 go_enter Tryz.func109,Tryz.ntmps109;go_wp2_with fail;refine(nSmall h hn (by omega)).mono ?_
 rintro e Q ⟨rfl,t⟩;have hlt:=T.lt;have T:=T.keep t;have m:=m.keep t
 have g:Hid (∀ b,b < w.heap.size->b≠gt->Q.heap[b]? = w.heap[b]?):=fun b hb _=>t.block b hb
 have d:Hid (∀ B w0,B<=gt->Below B w0 w->Below B w0 Q):=fun B w0 p o=>o.trans (t.mono (by omega))
 clear h t;go_wp2;go_loopw [0,6,13] (fun te tx G wr=>∃ k:Nat,k<=9/\G=.int .i64 k/\te=.int .i64 ((en - 2 * k:Nat):Int)/\tx=.int .u64 ((X / 100 ^ k:Nat):Int)/\dx wr gt 181 (l.take (en - 2 * k) ++ dm (2 * k) X ++ l.drop en)/\dx wr f 183 (cI 100)/\(∀ B w0,B<=gt->Below B w0 w->Below B w0 wr)/\(∀ b,b < w.heap.size->b≠gt->wr.heap[b]? = w.heap[b]?)) (fun _ _ G _=>9 - (intOf G).toNat)
 case atStart=>exact⟨0,by omega,rfl,rfl,by simp,by simpa[dm] using T,m,d.out,g.out⟩
 case round =>
  clear T m g d;obtain⟨k,hk,rfl,rfl,rfl,T,m,d,g⟩:=hrel;by_cases O:k < 9
  ·have hs:=sB (X:=X) hl u (show 2 * k + 2<=en by omega);have HS:=(show Hid _ from hs)
   have hlen:(l.take (en - 2 * k) ++ dm (2 * k) X ++ l.drop en).length=36:=by simp[dD]; omega
   have d:=(show Hid _ from d)
   have g:=(show Hid _ from g)
   have hdiv:X / 100 ^ k / 100=X / 100 ^ (k + 1):=by rw[Nat.div_div_eq_div_mul,Nat.pow_succ]
   have U:=(show Hid _ from hdiv)
   have C:X / 100 ^ k < 1000000000000000000:=Nat.lt_of_le_of_lt (Nat.div_le_self _ _) hx;clear hs hdiv;generalize X / 100 ^ k=Y at *
   have hi:Y % 100 < 100:=Nat.mod_lt _ (by decide)
   have W:(Y:Int).tmod 100=((Y % 100:Nat):Int):=by rw[Int.tmod_eq_emod_of_nonneg (by omega)]; omega
   generalize Y % 100=i at *
   have hi0:(i:Int) < 100:=by omega
   have x:=fun j v (A:[Value.int .u8 (48 + (i:Int) / 10),Value.int .u8 (48 + (i:Int) % 10)][j]? = some v)=>Cj i hi j v A
   have F:=(show Hid _ from x)
   clear x;obtain⟨E,z⟩:∃ E,en - 2 * k=E + 2:=⟨en - 2 * k - 2,by omega⟩
   have K:E + 2<=36:=by omega
   have R:=(show Hid _ from z)
   rw[z];clear z;have L:=Dm gt E (by omega);have V:=slice2 f (i * 2);go_wp2_with fail;go_region_law (refine nI rfl (.tmp 18) (.tmp 22) 96 96 rfl 5 cA CE gt E (36 - E) (36 - E) ⟨f,i * 2,none⟩ 2 2 (by rfl) (by rfl) _ 181 T.drew.blk [Value.int .u8 (48 + (i:Int) / 10),Value.int .u8 (48 + (i:Int) % 10)] (by show 2=Nat.min 2 (36 - E); exact(Nat.min_eq_left (by omega)).symm) (fun j v A=>F.out j v A _ f m.drew) (by rw[List.length_map,hlen]; show E + 2<=36; omega) (by simp[Value.oneCell']) ?_; intro N s y D)
   have P:dx N gt 181 (l.take (en - 2 * (k + 1)) ++ dm (2 * (k + 1)) X ++ l.drop en):=⟨by
    rw[<- HS.out,show en - 2 * k - 2=E by have:=R.out; omega]; exact s.out⟩
   have r:dx N f 183 (cI 100):=⟨by rw[y.out f (fun e=>J e.symm)]; exact m.blk⟩
   have H:=(show Hid _ from P)
   have q:=(show Hid _ from r)
   have htd:(Y:Int).tdiv 100=((Y / 100:Nat):Int):=by rw[Int.tdiv_eq_ediv_of_nonneg (by omega)]; omega
   have M:Y / 100 < 1000000000000000000:=Nat.lt_of_le_of_lt (Nat.div_le_self _ _) C;generalize hY2:Y / 100=Y2 at *;have S:=(show Hid _ from hY2)
   clear hY2 P r T m s;go_wp2;go_roundw
   case rel=>exact⟨k + 1,by omega,by go_num,by rw[show en - 2 * (k + 1)=E by have:=R.out; omega],by rw[<- U.out],H.out,q.out,fun B w0 p o=>D.out B w0 p (d.out B w0 p o).drew,fun b p o=>(y.out b o).trans (g.out b p o)⟩
   case measure=>simp[intOf]; omega
  ·have I:k=9:=by omega
   subst I;have d:=(show Hid _ from d)
   have g:=(show Hid _ from g)
   go_wp2;go_end0;exact⟨rfl,T,d.out,g.out⟩
theorem dW.over{t:TypeId}(h:dW w ao n c x)(T:dx w g t l)(p:∀ b,b < w.heap.size->b≠g->w'.heap[b]? = w.heap[b]?):dW w' ao n c x:=by
 obtain⟨b,o,m,j,q,k,f⟩:=h.ex;refine⟨b,o,m,j,q,k,f.loc,fun i hi => ?_⟩;have hc:=f.cell i hi;have hb:=aI hc
 have d:b≠g:=by
  intro e;subst e;have a:=T.blk;simp only[World.cell?,a] at hc;simp at hc
 rw[World.cell?_of_block (w:=w) (p b hb d)];exact hc
theorem dx.over{g':Nat}{t:TypeId}(h:dx w g' t l)(hne:g'≠g)(HK:∀ b,b < w.heap.size->b≠g->w'.heap[b]? = w.heap[b]?):dx w' g' t l:=⟨by rw[HK g' h.lt hne]; exact h.blk⟩
theorem sY(g:Nat)(W:World):(Instr.sliceAt 181 (.pointer (some ⟨g,0,none⟩)) none none none).run Tryz.prog W=.ok (.slice (some ⟨g,0,none⟩) 36 36) W:=by
 have a:Tryz.prog.arrayLen 181=36:=by kernel_rfl
 have b:Tryz.prog.elem 181=5:=by kernel_rfl
 have hu:Tryz.prog.underlying 181=some (.array (Tryz.prog.arrayLen 181) (Tryz.prog.elem 181)):=by kernel_rfl
 have hs:(sizeOf 5).run Tryz.prog W=.ok 1 W:=by kernel_rfl
 rw[run_sliceAt_array_all W 181 ⟨g,0,none⟩ hu,b,hs,a];simp[Result.andThen,slicedAt,Addr.add]
theorem rG{t:TypeId}(R:dx w g t d)(i:d.length=36)(h:fB d):∃ S:ByteArray,(convert 96 9 (.slice (some ⟨g,0,none⟩) 36 36)).run Tryz.prog w=Result.ok (.string S) w/\S.data.toList.map (fun c=>(c.toNat:Int))=d:=by
 have a:=run_loadCells_list (P:=Tryz.prog) w ⟨g,0,none⟩ (d.map (Value.int .u8)) (fun j u hu=>by
  rw[List.getElem?_map] at hu
  have e:j < d.length:=by
   rcases Nat.lt_or_ge j d.length with e | e
   ·exact e
   ·rw[List.getElem?_eq_none e] at hu; simp at hu
  rw[List.getElem?_eq_getElem e] at hu;simp at hu;subst hu;have:=R.cell e;rw[bS e] at this;rw[<- this];by_cases f:j=0
  ·subst f; exact congrArg w.cell? (by simp[Addr.add])
  ·exact congrArg w.cell? (by simp[Addr.add,f]))
 rw[List.length_map,i] at a;have b:=(run_convert_bytes_string (P:=Tryz.prog) w 96 9 5 (some ⟨g,0,none⟩) 36 36 cA rp jM).trans (run_bytesToString w ⟨g,0,none⟩ 36 36 d a);refine⟨_,b,?_⟩;rw[oF d ByteArray.empty];simp only[show ByteArray.empty.data.toList=[] from rfl,List.nil_append,List.map_map]
 conv=>rhs; rw[<- List.map_id d]
 apply List.map_congr_left;intro c hc;have:=h c hc;simp[Function.comp,UInt8.toNat_ofNat'];omega
theorem Bq(h : aV w ao n c x)(hn : n ≤ 274877906944)(hx : x < U36) :
    Calls Tryz.prog 69 #[.agg #[.slice ao n c]] w fun e w' => ∃ S : ByteArray, e = .returned (.string S) ∧ S.data.toList.map (fun c => (c.toNat : Int)) = dm 36 x ∧ Below w.heap.size w w' := by
  have o := mh w (.cells #[.slice ao n c] 32) (.cells ((List.replicate 36 (0 : Int)).map (Value.int .u8)).toArray 181);have g := mO (w.alloc (.cells #[.slice ao n c] 32)) 181 (List.replicate 36 0);rw[show (w.alloc (.cells #[.slice ao n c] 32)).heap.size = w.heap.size + 1 by simp] at g;have i := (eJ w (.slice ao n c) 32).alloc (.cells ((List.replicate 36 (0 : Int)).map (Value.int .u8)).toArray 181);have h := h.keep o;go_enter Tryz.func69, Tryz.ntmps69;go_wp2_with fail;change Calls _ _ _ ((w.alloc (.cells #[.slice ao n c] 32)).alloc (.cells ((List.replicate 36 (0 : Int)).map (Value.int .u8)).toArray 181)) _
  refine dPairs.mono ?_
  rintro e d ⟨rfl, b⟩;have g := g.keep b;have i := i.keep b;have h := h.keep b;have o := aj o b;have hlt := g.lt;clear b
  have m : (d.alloc (.cells Tryz.zeroCells183 183)).heap[d.heap.size]? = some (.cells Tryz.zeroCells183 183 (0, 0)) := heap_alloc_new d _
  have u : Tryz.zeroCells183.size = 200 := by kernel_rfl
  have y : ((cI 100).map (Value.int .u8)).toArray.size = 200 := by simp[bU]
  have Q := ae d (.cells Tryz.zeroCells183 183)
  have q : dx ((d.alloc (.cells Tryz.zeroCells183 183)).setRow d.heap.size ((cI 100).map (Value.int .u8)).toArray) d.heap.size 183 (cI 100) := ⟨setRow_heap _ _ _ _ _ _ m⟩
  have s : Below d.heap.size d ((d.alloc (.cells Tryz.zeroCells183 183)).setRow d.heap.size ((cI 100).map (Value.int .u8)).toArray) := below_setRow Q (Nat.le_refl _) _;have g := g.keep s;have i := i.keep s;have h := h.keep s;have o := aj o s;have HN := (show Hid _ from m);have Y := (show Hid _ from u);have z := (show Hid _ from y);have HBS := (show Hid _ from s.size);clear m u y Q s;generalize hW2 : (d.alloc (.cells Tryz.zeroCells183 183)).setRow d.heap.size ((cI 100).map (Value.int .u8)).toArray = w2 at *;have L := (show Hid _ from hW2);clear hW2;go_wp2_with (refine wpList_store_row rfl 183 (.tmp 4) (.tmp 9) rfl d.heap.size _ rfl rfl 183 _ HN.out (by rw[z.out]; kernel_rfl) (by rw[z.out, Y.out]) (by simp[Value.oneCell']) ?_; rw[L.out]);obtain⟨X, hX⟩ : ∃ X : Nat, x = (X : Int) := ⟨x.toNat, by have := h.px; omega⟩;subst hX
  have O : X < 1000000000000000000000000000000000000 := by have : U36 = 1000000000000000000000000000000000000 := by decide
                                                           omega
  have D := (show Hid _ from mQ 18 18 (X : Int) (by omega));have q0 := i.cell;go_region_held3 (fun w' => w'.cell? ⟨w.heap.size, 0, none⟩ = some (.slice ao n c)) (first | exact(by assumption) | go_keep)
    (first
    | (go_at_call 111; refine(xT 18 (by decide)).mono ?_; rintro e w3 ⟨a3, k3, d3, rfl, M, V, b⟩; have g := g.drew.keep b; have q := q.drew.keep b; have i := i.drew.keep b; have q0 := i.cell; have h := h.drew.keep b; have o := aj o.drew b; clear b)
    | (go_at_call 70; refine(nDiv h M.a (by omega) (by omega) (by decide)).mono ?_; rintro e w4 ⟨a4, k4, d4, a5, k5, d5, rfl, p, f, W, hk5, b⟩; have g := g.keep b; have q := q.keep b; have i := i.keep b; have q0 := i.cell; have o := aj o b; clear b h M))
  all_goals (
    have p := p.eqv (show (X : Int) / 10 ^ 18 = ((X / 1000000000000000000 : Nat) : Int) from by omega);have f := f.eqv (show (X : Int) % 10 ^ 18 = ((X % 1000000000000000000 : Nat) : Int) from by omega)
    have G : X / 1000000000000000000 < 1000000000000000000 := by omega
    have K : X % 1000000000000000000 < 1000000000000000000 := by omega
    have I : Hid ((X : Int) / 10 ^ 18 = ((X / 1000000000000000000 : Nat) : Int)) := by show _ = _; omega
    have H : Hid (dm 18 (X : Int) = dm 18 ((X % 1000000000000000000 : Nat) : Int)) := by
      show _ = _
      apply oU (lT (by omega)) (lT (by omega)) (by simp[dD]);rw[qJ (by omega), qJ (by omega)];omega
    generalize X / 1000000000000000000 = C at *;generalize X % 1000000000000000000 = T at *
    have j : w.heap.size + 1 ≠ d.heap.size := by omega
    have A := xO 18 p (by omega) G g (by simp) (by decide) (by decide) q j;go_wp2_with fail;refine A.mono ?_
    rintro e w5 ⟨rfl, P, v, r⟩;have f := f.over g r;have q := q.over (fun e => j e.symm) r;have R := v w.heap.size w (by omega) o;clear A g i q0 v r p o;have t := xO 36 f (by omega) K P (by simp[dD]) (by decide) (by decide) q j;go_wp2_with fail;refine t.mono ?_
    rintro e w6 ⟨rfl, E, B, J⟩;have Z := B w.heap.size w (by omega) R
    clear t f q B J P R)
  all_goals (
    have hL : (List.take (36 - 18) (List.take (18 - 18) (List.replicate 36 (0 : Int)) ++ dm 18 (C : Int) ++ List.drop 18 (List.replicate 36 0)) ++ dm 18 (T : Int) ++ List.drop 36 (List.take (18 - 18) (List.replicate 36 (0 : Int)) ++ dm 18 (C : Int) ++ List.drop 18 (List.replicate 36 0))) = dm 36 (X : Int) := by
      rw[D.out, I.out, H.out]
      have l1 : (dm 18 (C : Int)).length = 18 := dD _ _;rw[List.take_append_of_le_length (by simp[l1]), List.drop_of_length_le (l := List.take (18 - 18) (List.replicate 36 (0 : Int)) ++ dm 18 (C : Int) ++ List.drop 18 (List.replicate 36 0)) (by simp[l1])];rw[show List.take (18 - 18) (List.replicate 36 (0 : Int)) = [] from rfl, List.nil_append, List.take_of_length_le (by omega), List.append_nil]
    rw[hL] at E;obtain⟨S, U, F⟩:= rG E (dD 36 _) (lT (by omega));have N := sY (w.heap.size + 1) w6;clear hL E;go_wp2;go_ret
    exact⟨S, rfl, F, Z⟩)
end
end Go.Proofs.YthfepflplbahkaaGreatDoor
namespace Go.Proofs.YthfepflplbahkaaGreatDoor
open Go.RowKit Lim
end Go.Proofs.YthfepflplbahkaaGreatDoor
namespace Go.Proofs.YthfepflplbahkaaGreatDoor
open Go.RowKit Lim
end Go.Proofs.YthfepflplbahkaaGreatDoor
namespace Go.Proofs.YthfepflplbahkaaGreatDoor
open Go.RowKit Lim
end Go.Proofs.YthfepflplbahkaaGreatDoor
namespace Go.Proofs.YthfepflplbahkaaGreatDoor
open Go.RowKit Lim
section
variable {w:World}{x:Int}{ao:Option Addr}{n c:Nat}
def tu(r:Int):List UInt8:=(dm 36 r).map fun c=>UInt8.ofNat c.toNat
def uR(r:Int):List UInt8:=if r=0 then [] else 46 :: Lib.trimRightB (tu r) 48
structure xP(S:ByteArray)(x:Int):Prop where
 ex:∃ Sw:ByteArray,pR Sw (x / U36)/\S.data.toList=Sw.data.toList ++ uR (x % U36)
theorem CA{S:ByteArray}{r:Int}(h:S.data.toList.map (fun c=>(c.toNat:Int))=dm 36 r):S.data.toList=tu r:=by
 unfold tu;rw[<- h,List.map_map]
 conv=>lhs; rw[<- List.map_id S.data.toList]
 apply List.map_congr_left;intro c _;simp[Function.comp]
def jW(w:World)(x:Int):Prop:=∀ g,fG g->ec g=x->g≠[]->0 < nth g (g.length - 1)->∀ wx,Below w.heap.size w wx->rP (nth g (g.length - 1)) wx
theorem jW.keep{w':World}(h:jW w x)(hb:Below w.heap.size w w'):jW w' x:=fun g h1 h2 h3 h4 wx hx=>h g h1 h2 h3 h4 wx (aj hb hx)
theorem yP(l:List UInt8)(c:UInt8):(Lib.trimRightB l c).length<=l.length:=by
 unfold Lib.trimRightB;rw[List.length_reverse];have:=(List.dropWhile_sublist (fun x=>x == c) (l:=l.reverse)).length_le;rwa [List.length_reverse] at this
theorem qA(r:Int):(tu r).length=36:=by unfold tu; rw[List.length_map,dD]
theorem nText(h:aV w ao n c x)(hn:n<=4294967296)(hA:jW w x) :
  Calls Tryz.prog 67 #[.slice ao n c] w fun e w'=>∃ s,e=.returned (.string s)/\pR s x/\s.size<=40 * n + 40/\Below w.heap.size w w':=by
 obtain⟨b,o,l,a,g,d,f,rfl⟩:=h.ex;exact z8 ao n c b o l w a g hn d f hA
theorem zn(h:aV w ao n c x)(hn:n<=4294967000)(hA:jW w (x / U36)) :
  Calls Tryz.prog 35 #[.agg #[.slice ao n c]] w fun e w'=>∃ S:ByteArray,e=.returned (.string S)/\xP S x/\S.size<=40 * n + 100/\Below w.heap.size w w':=by
 have f:=ae w (.cells #[.slice ao n c] 32);have y:=eJ w (.slice ao n c) 32;have h:=h.keep f;have hA:=hA.keep f;have q0:=y.cell;go_enter Tryz.func35,Tryz.ntmps35;have F:=h.px;have s:=Bv
 have H:0<=x % U36:=Int.emod_nonneg _ (by omega)
 have r:x % U36 < U36:=Int.emod_lt_of_pos _ s;go_wp2_with fail;refine(dTrunc h (by omega)).mono ?_
 rintro e v ⟨a1,k1,d1,a2,k2,d2,rfl,g,d,I,G,b⟩;have f:=aj f b;have hA:=hA.keep b;clear b h y q0;have o:=ae v (.cells #[.slice a2 k2 d2] 32);have l:=eJ v (.slice a2 k2 d2) 32;have g:=g.keep o;have d:=d.keep o;have hA:=hA.keep o;have f:=aj f o;have z:=nText g.a (by omega) hA;clear o hA;go_wp2_with fail;refine z.mono ?_
 rintro e M ⟨q,rfl,m,E,b⟩;have d:=d.keep b;have l:=l.keep b;have f:=aj f b;have D:=l.cell;clear b z g;have p:=DT d.a (by omega);generalize v.heap.size=N at *;by_cases j:x % U36=0
 ·rw[decide_eq_true j] at p;have t:=(show Hid _ from j)
  clear j;go_wp2_with fail;refine p.mono ?_
  rintro e B ⟨rfl,b⟩;go_wp2;go_ret;exact⟨q,rfl,⟨q,m,by rw[t.out]; simp[uR]⟩,by omega,aj f b⟩
 ·rw[decide_eq_false j] at p;have t:=(show Hid _ from j)
  clear j;go_wp2_with fail;refine p.mono ?_
  rintro e B ⟨rfl,b⟩;have d:=d.keep b;have l:=l.keep b;have f:=aj f b;have D:=l.cell;clear b p;go_wp2_with fail;refine(Bq d.a (by omega) r).mono ?_
  rintro e J ⟨S,rfl,hS,b⟩;have i:=CA hS
  have L:S.size=36:=by
   have:(S.data.toList.map (fun c=>(c.toNat:Int))).length=36:=by rw[hS,dD]
   simpa using this
  have f:=aj f b;clear b hS;have u:=Tryz.strings_TrimRight_one S 48 (by decide) J (by omega);rw[i] at u;generalize hR:(⟨(Lib.trimRightB (tu (x % U36)) 48).toArray⟩:ByteArray)=R at u
  have K:R.size<=36:=by
   have A:=yP (tu (x % U36)) 48;rw[qA] at A;rw[<- hR];simpa[ByteArray.size] using A
  have C:=(show Hid _ from hR)
  clear i hR;go_wp2_with fail;refine u.mono ?_
  rintro e O ⟨rfl,rfl⟩;go_wp2_with fail;go_ret;refine⟨_,rfl,⟨q,m,?_⟩,?_,f⟩
  ·rw[uR,if_neg t.out,<- C.out];simp
  ·show (q ++ (⟨#[46]⟩:ByteArray) ++ R).size<=_
   rw[ByteArray.size_append,ByteArray.size_append];have:(⟨#[46]⟩:ByteArray).size=1:=rfl;omega
end
end Go.Proofs.YthfepflplbahkaaGreatDoor
