/- Several texts, joined: Pairs, Split, Text, Shelf, App, Frac, Known, Places, Dec2, Mid, Dec4, Di. -/
import Derived.Test.YthfepflplbahkaaGreatDoorJab
import Derived.Laws.Tables
import Derived.Laws.Rows
import Derived.Laws.CopyOwn
import Derived.Test.YthfepflplbahkaaGreatDoorJam
import Derived.Lib.AppendStr
import Derived.Shelf.Strings.Trim
import Derived.Shelf.LaysM
import Derived.Shelf.Strings.Search1
import Derived.Shelf.Strconv.AppendUint10
import Derived.Test.YthfepflplbahkaaGreatDoorProg
import Derived.Test.YthfepflplbahkaaGreatDoorJaa
import Derived.Deep.RegionLaw
import Derived.Deep.RegionHeld3
set_option maxRecDepth 100000
set_option maxHeartbeats 8000000
namespace Go.Proofs.YthfepflplbahkaaGreatDoor
open Go.RowKit Lim
section
variable {w:World}{g i:Nat}{l:List Int}
structure eh(w:World)(g:Nat)(t:TypeId)(l:List Int):Prop where
 blk:w.heap[g]? = some (.cells (l.map (Value.int .u8)).toArray t (0,0))
theorem eh.lt{t:TypeId}(h:eh w g t l):g < w.heap.size:=lt_of_block h.blk
theorem eh.keep{w':World}{t:TypeId}(h:eh w g t l)(hb:Below w.heap.size w w'):eh w' g t l:=⟨by rw[hb.block g h.lt]; exact h.blk⟩
theorem eh.cell{t:TypeId}(h:eh w g t l)(hi:i < l.length):w.cell? ⟨g,i,none⟩=some (.int .u8 (nth l i)):=by
 simp[World.cell?,h.blk,hi,bT hi]
theorem eh.free{t:TypeId}(h:eh w g t l)(i:Nat):w.frozen? ⟨g,i,none⟩=false:=by simp[World.frozen?,h.blk]
theorem eh.set{t:TypeId}(h:eh w g t l)(i:Nat)(x:Int):eh (w.setCell ⟨g,i,none⟩ (.int .u8 x)) g t (l.set i x):=⟨by
 have hb:=h.blk;simp only[World.setCell,Array.getElem?_modify,if_true,hb]
 simp⟩
theorem eh.other{g':Nat}{t:TypeId}(h:eh w g t l)(hne:g≠g')(u:Value):eh (w.setCell ⟨g',i,none⟩ u) g t l:=⟨by rw[Below.heap_setCell w _ u g hne]; exact h.blk⟩
theorem eh.drew{t:TypeId}(h:eh w g t l):eh w.drew g t l:=⟨h.blk⟩
theorem pK(w:World)(t:TypeId)(l:List Int):eh (w.alloc (.cells (l.map (Value.int .u8)).toArray t)) w.heap.size t l:=⟨by
 show (w.heap.push _)[w.heap.size]? = _
 rw[Array.getElem?_push_size]⟩
def dx:Nat->List Int
 | 0=>[]
 | k + 1=>dx k ++ [48 + (k:Int) / 10,48 + (k:Int) % 10]
theorem cQ(k:Nat):(dx k).length=2 * k:=by
 induction k with
 | zero=>rfl
 | succ k ih=>simp[dx,ih]; omega
theorem Bf{k:Nat}(h:i < k):nth (dx k) (2 * i)=48 + (i:Int) / 10/\nth (dx k) (2 * i + 1)=48 + (i:Int) % 10:=by
 induction k with
 | zero=>omega
 | succ k ih =>
  have a:=cQ k;by_cases e:i=k
  ·subst e;rw[dx,bV (by omega),bV (by omega),a,Nat.sub_self,show 2 * i + 1 - 2 * i=1 by omega];exact⟨rfl,rfl⟩
  ·rw[dx,dz (by omega),dz (by omega)];exact ih (by omega)
theorem dPairs:Calls Tryz.prog 108 #[] w fun e w'=>e=.returned (.agg ((dx 100).map (Value.int .u8)).toArray)/\Below w.heap.size w w':=by
 go_enter Tryz.func108,Tryz.ntmps108;go_wp2
 have hz:Tryz.zeroCells183=((List.replicate 200 (0:Int)).map (Value.int .u8)).toArray:=by kernel_rfl
 rw[hz];have R1:=pK (w.alloc (.cells ((List.replicate 200 (0:Int)).map (Value.int .u8)).toArray 183)) 183 (List.replicate 200 0);rw[show (w.alloc (.cells ((List.replicate 200 (0:Int)).map (Value.int .u8)).toArray 183)).heap.size=w.heap.size + 1 by simp] at R1;have R0:=(pK w 183 (List.replicate 200 0)).keep (ae _ (.cells ((List.replicate 200 (0:Int)).map (Value.int .u8)).toArray 183));have B0:=kM w (.cells ((List.replicate 200 (0:Int)).map (Value.int .u8)).toArray 183) (.cells ((List.replicate 200 (0:Int)).map (Value.int .u8)).toArray 183);clear hz;generalize (w.alloc (.cells ((List.replicate 200 (0:Int)).map (Value.int .u8)).toArray 183)).alloc (.cells ((List.replicate 200 (0:Int)).map (Value.int .u8)).toArray 183)=w0 at *;go_loopw [3] (fun ti wr=>∃ k:Nat,k<=100/\ti=.int .i64 k/\eh wr (w.heap.size + 1) 183 (dx k ++ List.replicate (200 - 2 * k) 0)/\eh wr w.heap.size 183 (List.replicate 200 0)/\Below w.heap.size w wr) (fun ti _=>100 - (intOf ti).toNat)
 case atStart=>exact⟨0,by omega,rfl,R1,R0,B0⟩
 case round =>
  clear R1 R0 B0;obtain⟨k,hk,rfl,R1,R0,B0⟩:=hrel;by_cases hlt:k < 100
  ·have hkl:(k:Int) < 100:=by omega
   have hlen:(dx k ++ List.replicate (200 - 2 * k) (0:Int)).length=200:=by rw[List.length_append,cQ,List.length_replicate]; omega
   have e0:nth (dx k ++ List.replicate (200 - 2 * k) (0:Int)) (k * 2)=0:=by
    rw[bV (by rw[cQ]; omega),bT (by rw[cQ,List.length_replicate]; omega)]; simp
   have e1:nth (dx k ++ List.replicate (200 - 2 * k) (0:Int)) (k * 2 + 1)=0:=by
    rw[bV (by rw[cQ]; omega),bT (by rw[cQ,List.length_replicate]; omega)]; simp
   have c1:=R1.cell (i:=k * 2) (by rw[hlen]; omega);have c2:=R1.cell (i:=k * 2 + 1) (by rw[hlen]; omega);rw[e0] at c1;rw[e1] at c2;have f1:=R1.free (k * 2);have f2:=R1.free (k * 2 + 1)
   have HR:Hid (eh ((wr.setCell ⟨w.heap.size + 1,k * 2,none⟩ (.int .u8 (48 + (k:Int) / 10))).setCell ⟨w.heap.size + 1,k * 2 + 1,none⟩ (.int .u8 (48 + (k:Int) % 10))) (w.heap.size + 1) 183 (dx (k + 1) ++ List.replicate (200 - 2 * (k + 1)) 0)):=by
    have:=(R1.set (k * 2) (48 + (k:Int) / 10)).set (k * 2 + 1) (48 + (k:Int) % 10)
    have hs:((dx k ++ List.replicate (200 - 2 * k) (0:Int)).set (k * 2) (48 + (k:Int) / 10)).set (k * 2 + 1) (48 + (k:Int) % 10)=dx (k + 1) ++ List.replicate (200 - 2 * (k + 1)) 0:=by
     rw[show 200 - 2 * k=200 - 2 * (k + 1) + 1 + 1 by omega,List.replicate_succ,List.replicate_succ,dx];rw[show k * 2=(dx k).length by rw[cQ]; omega];rw[List.set_append_right _ _ (Nat.le_refl _),Nat.sub_self,List.set_cons_zero,List.set_append_right _ _ (by omega),Nat.add_sub_cancel_left,List.set_cons_succ,List.set_cons_zero];simp
    rw[hs] at this;exact this
   have H0:Hid (eh ((wr.setCell ⟨w.heap.size + 1,k * 2,none⟩ (.int .u8 (48 + (k:Int) / 10))).setCell ⟨w.heap.size + 1,k * 2 + 1,none⟩ (.int .u8 (48 + (k:Int) % 10))) w.heap.size 183 (List.replicate 200 0)):=(R0.other (by omega) _).other (by omega) _
   have HB:Hid (Below w.heap.size w ((wr.setCell ⟨w.heap.size + 1,k * 2,none⟩ (.int .u8 (48 + (k:Int) / 10))).setCell ⟨w.heap.size + 1,k * 2 + 1,none⟩ (.int .u8 (48 + (k:Int) % 10)))):=(B0.setCell (p:=⟨w.heap.size + 1,k * 2,none⟩) (by show w.heap.size<=w.heap.size + 1; omega) _).setCell (p:=⟨w.heap.size + 1,k * 2 + 1,none⟩) (by show w.heap.size<=w.heap.size + 1; omega) _;clear R1 R0 B0 e0 e1 hlen;go_wp2;go_roundw
   case rel=>exact⟨k + 1,by omega,by go_num,HR.out,H0.out,HB.out⟩
   case measure=>simp[intOf]; omega
  ·have hkn:k=100:=by omega
   subst hkn;rw[show dx 100 ++ List.replicate (200 - 2 * 100) (0:Int)=dx 100 by simp] at R1
   have hsz:((dx 100).map (Value.int .u8)).toArray.size=200:=by simp[cQ]
   have HB:=(show Hid _ from B0)
   go_wp2_with (first
    | (refine wpList_load_row rfl 183 (.tmp 1) rfl (w.heap.size + 1) rfl 183 _ (0,0) _ R1.blk Tryz.underlying183 rfl (by rw[hsz]; kernel_rfl) ?_)
    | (refine wpList_store_row rfl 183 (.tmp 0) (.tmp 18) rfl w.heap.size _ rfl rfl 183 _ R0.blk (by rw[hsz]; kernel_rfl) (by rw[hsz]; simp) (by simp[Value.oneCell']) ?_))
   have hrow:=setRow_heap wr w.heap.size _ ((dx 100).map (Value.int .u8)).toArray _ _ R0.blk;refine bodyPost_ret (results_cell_row rfl _ _ w.heap.size 183 _ (0,0) _ rfl hrow Tryz.underlying183 rfl (by rw[hsz]; kernel_rfl)) rfl ?_
   exact⟨rfl,below_setRow HB.out (Nat.le_refl _) _⟩
end
end Go.Proofs.YthfepflplbahkaaGreatDoor
namespace Go.Proofs.YthfepflplbahkaaGreatDoor
open Go.RowKit Lim
section
variable {l:List Int}{w:World}{B n:Nat}{v:Value}{xs:List Value}
def ef:List Int->Int
 | []=>0
 | x :: l=>x + 10000000000000000000 * ef l
def fx(l:List Int):Prop:=∀ x∈l,0<=x/\x < 10000000000000000000
theorem ni(a b:List Int):ef (a ++ b)=ef a + 10000000000000000000 ^ a.length * ef b:=by
 induction a with
 | nil=>simp[ef]
 | cons x a ih=>simp only[List.cons_append,ef,ih,List.length_cons,Int.pow_succ]; grind
theorem fT(h:fx l):0<=ef l:=by
 induction l with
 | nil=>simp[ef]
 | cons x l ih=>have:=h x List.mem_cons_self; have:=ih fun y hy=>h y (List.mem_cons_of_mem _ hy); simp only[ef]; omega
def lenOf:Value->Nat | .slice _ n _=>n | _=>0
theorem wy:Tryz.prog.underlying 29=some (.slice 22):=by kernel_rfl
theorem GJ{e:TypeId}(h:w.ownsRow B e 1 v n xs):lenOf v=n:=by
 rcases h.2 with⟨rfl,h0⟩ | ⟨g',cap,cur,rfl,_⟩
 ·simp[lenOf,h0]
 ·rfl
theorem dS.wr{b o:Nat}{w':World}(h:dS w B v l)(hw:Wr b o n w w')(hb:b < B):dS w' B v l:=by
 obtain⟨f,a⟩:=h;refine⟨f,?_⟩;rcases a with a | ⟨g,cap,cur,rfl,c,e,d⟩
 ·exact .inl a
 ·exact .inr ⟨g,cap,cur,rfl,c,by rw[hw.block g (by omega)]; exact e,d⟩
theorem dS.mono{B':Nat}(h:dS w B v l)(hB:B'<=B):dS w B' v l:=by
 obtain⟨h1,h2⟩:=h;refine⟨h1,?_⟩;rcases h2 with h2 | ⟨g,cap,cur,rfl,hB1,hr⟩
 ·exact .inl h2
 ·exact .inr ⟨g,cap,cur,rfl,by omega,hr⟩
theorem pU{k:Nat}{V R:Int}(e:10000000000000000000 ^ k * R<=V)(a:1<=R)(b:V < 18446744073709551616 ^ n):k<=2 * n:=by
 by_cases c:k<=2 * n
 ·exact c
 ·have e1:(18446744073709551616:Int) ^ n<=(4294967296 ^ 2) ^ n:=by rw[show (4294967296:Int) ^ 2=18446744073709551616 from rfl]; exact Int.le_refl _
  rw[<- Int.pow_mul] at e1
  have e2:(4294967296:Int) ^ (2 * n)<=4294967296 ^ k:=by
   have:(4294967296:Nat) ^ (2 * n)<=4294967296 ^ k:=Nat.pow_le_pow_right (by decide) (by omega)
   have a1:((4294967296 ^ (2 * n):Nat):Int)=(4294967296:Int) ^ (2 * n):=by rw[Int.natCast_pow]; rfl
   have a2:((4294967296 ^ k:Nat):Int)=(4294967296:Int) ^ k:=by rw[Int.natCast_pow]; rfl
   omega
  have e3:(4294967296:Int) ^ k<=10000000000000000000 ^ k:=by
   have:(4294967296:Nat) ^ k<=10000000000000000000 ^ k:=Nat.pow_le_pow_left (by omega) _
   have a1:((4294967296 ^ k:Nat):Int)=(4294967296:Int) ^ k:=by rw[Int.natCast_pow]; rfl
   have a2:((10000000000000000000 ^ k:Nat):Int)=(10000000000000000000:Int) ^ k:=by rw[Int.natCast_pow]; rfl
   omega
  have d:(10000000000000000000:Int) ^ k * 1<=10000000000000000000 ^ k * R:=Int.mul_le_mul_of_nonneg_left a (Int.le_of_lt (Int.pow_pos (by decide)));omega
theorem mI(ao:Option Addr)(n c b o:Nat)(l:List Int)(w:World)(hl:l.length=n)(hc:n<=c)(hbig:n<=1099511627776)(wl:Words l)(ha:At w ao b o l) :
  Calls Tryz.prog 101 #[.slice ao n c] w fun e w'=>∃ v g,e=.returned v/\dS w' w.heap.size v g/\fx g/\ef g=val l/\(g≠[]->0 < nth g (g.length - 1))/\g.length<=2 * n + 1/\Below w.heap.size w w':=by
 obtain⟨i0,hi,hz0,hz1,hz2⟩:=info_parts iB;have hV:=ee wl;rw[hl] at hV;go_enter Tryz.func101,Tryz.ntmps101;go_wp2_with fail;refine(jG ao n c b o l w hl hc hbig ha).mono ?_
 rintro e w1 ⟨rfl,ad,hb1⟩;have hn:=bJ l;have hnl:=aM l;have hI:=cI wl;have hlt1:=ad.lt;go_wp2_with fail;go_loopw [3,4] (fun tg tr wr=>∃ (g lr:List Int) (N C:Nat),tr=.slice (some ⟨w.heap.size,0,none⟩) N C/\Hid (N=lr.length)/\N<=C/\N<=n/\Hid (lenOf tg=g.length)/\dS wr (w.heap.size + 1) tg g/\fx g/\Words lr/\Hid (aJ lr=lr.length)/\Hid (ef g + 10000000000000000000 ^ g.length * val lr=val l)/\Hid (g≠[]->val lr=0->0 < nth g (g.length - 1))/\At wr (some ⟨w.heap.size,0,none⟩) w.heap.size 0 lr/\dW wr w.heap.size 0 N/\w.heap.size < wr.heap.size/\Below w.heap.size w wr) (fun tg _ _=>2 * n + 2 - lenOf tg)
 case atStart=>exact⟨[],norm l,aJ l,aJ l,rfl,hnl.symm,Nat.le_refl _,by omega,rfl,World.ownsRow_nil _ _ _ _,fun x hx=>by simp at hx,hI.1,hI.2.1,by show _=_; simp[ef,dh],fun h=>absurd rfl h,ad.at,ad.free _ _,hlt1,hb1⟩
 case round =>
  clear ad hb1 hnl hI hlt1 hn;obtain⟨g,lr,N,C,rfl,hN,hNC,hNn,hlg,hmg,hgo,hwr,hnr,ab,htop,hat,hfr,hsz,hbe⟩:=hrel;by_cases hlt:0 < N
  ·go_wp2_with fail;refine(jd (some ⟨w.heap.size,0,none⟩) w.heap.size 0 N C 10000000000000000000 lr wr hN.out.symm (by omega) hNC (by decide) (by decide) hwr hat hfr).mono ?_
   rintro e w2 ⟨left,lz,rfl,hf0,hf1,hlz,hwz,hatz,aa,hvz⟩
   have hgl:g.length<=2 * n:=by
    have hn0:=hN.out;have hp:=rR hwr (by have:=hnr.out; omega);have hg0:=fT hgo;have hv:=ab.out;exact pU (V:=val l) (R:=val lr) (by omega) (by omega) hV
   have hmg2:=hmg.wr aa (by omega)
   have hown:w2.ownsRow (w.heap.size + 1) 22 1 _ g.length (g.map (Value.int .u64)):=hmg2
   have hsz2:wr.heap.size<=w2.heap.size:=Nat.le_of_eq aa.size.symm
   have hsz2':w2.heap.size<=wr.heap.size:=Nat.le_of_eq aa.size;generalize hGL:g.length=G at *;have HGL:=(show Hid _ from hGL)
   clear hGL;go_wp2_with (at_builtin; refine wpList_append_own _ rfl _ _ 29 rfl (w.heap.size + 1) 22 i0 (.int .u64 0) 1 8 wy hi hz0 hz1 hz2 rfl (by decide) _ _ _ rfl (hown.alloc _) ⟨w2.heap.size,0,none⟩ 1 1 [.int .u64 left] rfl rfl ?c1 ?c2 ?c3 ?c4 ?c5 ?_)
   case c1=>exact cell_one_new _ _ _
   case c2=>intro u hu; simp at hu; subst hu; rfl
   case c3=>unfold maxLen; omega
   case c4=>omega
   case c5=>simp; omega
   intro v' w3 ac hgrow _
   have hB3:Below (w.heap.size + 1) w2 w3:=((Below.refl _ _).alloc (by omega) _).grown hgrow (by simp; omega) (s7 hmg2);have hat3:=hatz.below hB3 (.inr (by omega));have hfr2:=aa.free hfr
   have hfr3:dW w3 w.heap.size 0 N:=fun i hi=>by rw[hB3.frozen (p:=⟨w.heap.size,0 + i,none⟩) (by show w.heap.size < _; omega)]; exact hfr2 i hi
   have hM:dS w3 (w.heap.size + 1) v' (g ++ [left]):=by
    unfold dS;rw[List.length_append,HGL.out,List.map_append]; exact ac
   have hlv:=GJ ac;have hsz3:=hB3.size
   have HB:Below w.heap.size w w3:=(hbe.trans (aa.below (Nat.le_refl _))).trans (hB3.mono (by omega));have t3:=bL (some ⟨w.heap.size,0,none⟩) N C lz w3 hlz hNC (by omega) hat3.cells;have hz1:=bJ lz;have hz2:=aM lz;have hz3:=hat3.sub (aJ lz);have hz4:=rv lz;have hz5:=dh lz;have hz6:=hwz.norm;rw[show lz.take (aJ lz)=norm lz from rfl] at hz3
   have hvl:0 < val lr:=rR hwr (by have:=hnr.out; have:=hN.out; omega)
   have HV:Hid (ef (g ++ [left]) + 10000000000000000000 ^ (g ++ [left]).length * val (norm lz)=val l):=by
    show _=_
    rw[ni,List.length_append,hz5,<- ab.out,<- hvz,HGL.out,List.length_singleton,Int.pow_succ];simp only[ef];grind
   have HT:Hid ((g ++ [left])≠[]->val (norm lz)=0->0 < nth (g ++ [left]) ((g ++ [left]).length - 1)):=by
    intro _ h0;rw[List.length_append,List.length_singleton,Nat.add_sub_cancel,bV (Nat.le_refl _),Nat.sub_self,bW];rw[hz5] at h0;rw[h0] at hvz;omega
   have HL:Hid (lenOf v'=(g ++ [left]).length):=by show _=_; rw[hlv,List.length_append,HGL.out]; rfl
   have HO:fx (g ++ [left]):=by
    intro x hx;rcases List.mem_append.1 hx with e | e
    ·exact hgo x e
    ·simp at e; subst e; exact⟨hf0,hf1⟩
   clear ac hgrow hown hmg2 hmg hat3 hatz aa hvz hat hfr hfr2 ab htop hbe hB3 hz5;generalize aJ lz=K at *;generalize norm lz=R at *;go_wp2_with fail;refine t3.mono ?_
   rintro e w6 ⟨rfl,rfl⟩;go_wp2;go_roundw
   case rel=>exact⟨g ++ [left],R,K,K,rfl,hz2.symm,Nat.le_refl _,by omega,HL,hM,HO,hz6,hz4,HV,HT,hz3,fun i hi=>hfr3 i (by omega),by omega,HB⟩
   case measure =>
    rw[HL.out,hlg.out,List.length_append,HGL.out,List.length_singleton];omega
  ·have hN0:lr=[]:=List.eq_nil_of_length_eq_zero (by have:=hN.out; omega);subst hN0;have hv:=ab.out;rw[show val []=0 from rfl,Int.mul_zero,Int.add_zero] at hv;have ht:=fun h=>htop.out h rfl
   have hgl:g.length<=2 * n + 1:=by
    have hg0:=fT hgo;by_cases h0:g=[]
    ·subst h0; simp
    ·have hne:g.length≠0:=fun e=>h0 (List.eq_nil_of_length_eq_zero e)
     have hlast:=ht h0
     have hsp:g=g.take (g.length - 1) ++ [nth g (g.length - 1)]:=by
      rw[<- dF (by omega),show g.length - 1 + 1=g.length from by omega,List.take_of_length_le (Nat.le_refl _)]
     have hgv:ef g=ef (g.take (g.length - 1)) + 10000000000000000000 ^ (g.length - 1) * nth g (g.length - 1):=by
      conv=>lhs; rw[hsp]
      rw[ni,List.length_take,Nat.min_eq_left (by omega)]; simp[ef]
     have h3:=fT (l:=g.take (g.length - 1)) (fun x hx=>hgo x (List.mem_of_mem_take hx));have:=pU (V:=val l) (R:=nth g (g.length - 1)) (k:=g.length - 1) (by omega) (by omega) hV;omega
   have hmg':dS wr w.heap.size _ g:=hmg.mono (by omega);clear ab htop hlg hmg hN;have HV:=(show Hid _ from hv)
   clear hv;go_wp2;go_ret;exact⟨_,g,rfl,hmg',hgo,HV.out,ht,hgl,hbe⟩
end
end Go.Proofs.YthfepflplbahkaaGreatDoor
namespace Go.Proofs.YthfepflplbahkaaGreatDoor
open Go.RowKit Lim
section
variable {g l:List Int}{w:World}{v:Value}
def kA(u:Int)(wx:World):Prop:=Calls Tryz.prog 102 #[.slice none 0 0,.int .u64 u,.int .i64 10] wx fun e w'=>∃ v d,e=.returned v/\dt w' wx.heap.size v d/\gV d/\dvI d=u/\0 < d.length/\d.length<=20/\nth d 0≠48/\Below wx.heap.size wx w'
def Gm(u:Int):Prop:=∀ wx,kA u wx
theorem iK:Tryz.prog.underlying 9=some .string:=by kernel_rfl
theorem app_one:Gm 1:=by
 intro w;unfold kA;obtain⟨i0,hi,ae,ad,af⟩:=info_parts lW
 have aa:w.ownsRow w.heap.size 5 1 (.slice none 0 0) 0 []:=World.ownsRow_nil _ _ _ _;go_enter Tryz.func102,Tryz.ntmps102
 go_wp2_with (first
  | (at_builtin; refine Lib.wpList_append_own_string _ rfl _ _ 96 9 rfl w.heap.size 5 i0 cA iK hi ae ad af _ _ _ rfl aa ⟨#[49]⟩ rfl (by decide) (by decide) (Nat.le_refl _) ?_; intro v' w1 ab ac ag)
  | go_in)
 go_ret;refine⟨v',[49],rfl,ab,fun c hc=>by rw[List.mem_singleton] at hc; subst hc; decide,rfl,by simp,by simp,by rw[bW]; decide,?_⟩;exact(Below.refl _ _).grown ac (Nat.le_refl _) (s7 aa)
theorem uD:Tryz.prog.underlying 5=some (.int .u8):=by kernel_rfl
theorem re(d:List Int):∀ r:ByteArray,(d.foldl (fun r n=>r.push (UInt8.ofNat n.toNat)) r).data.toList=r.data.toList ++ d.map (fun n=>UInt8.ofNat n.toNat):=by
 induction d with
 | nil=>intro r; simp
 | cons c d ih=>intro r; rw[List.foldl_cons,ih]; simp
theorem qX{i:Nat}(h:i < g.length):ef (g.drop i)=nth g i + 10000000000000000000 * ef (g.drop (i + 1)):=by
 rw[List.drop_eq_getElem_cons h,ef,bT h]
theorem dt.open{B:Nat}(h:dt w B v l)(d:0 < l.length):∃ g c,v=.slice (some ⟨g,0,none⟩) l.length c/\l.length<=c/\B<=g/\AtB w (some ⟨g,0,none⟩) g 0 l/\dW w g 0 l.length:=by
 obtain⟨_,a⟩:=h;rcases a with⟨rfl,h0⟩ | ⟨g,cap,cur,rfl,hB,hh,hle,hmx,hsz,htk⟩
 ·omega
 ·refine⟨g,cap,rfl,hle,hB,⟨.inr rfl,fun i hi => ?_⟩,fun i hi => ?_⟩
  ·have e:cur.toList[i]? = some (.int .u8 (nth l i)):=by
    have b:(cur.toList.take (l.length * 1))[i]? = some (.int .u8 (nth l i)):=by
     rw[htk,List.getElem?_map,List.getElem?_eq_getElem hi,bT hi]; rfl
    rwa [Nat.mul_one,List.getElem?_take_of_lt hi] at b
   simp only[World.cell?,hh];simpa using e
  ·simp[World.frozen?,hh]
structure rT(s:ByteArray)(n:Int):Prop where
 bytes:∃ d:List Int,s.data.toList.map (fun c=>(c.toNat:Int))=d/\gV d/\dvI d=n/\0 < d.length/\(d.length=1\/nth d 0≠48)
theorem BE(ao:Option Addr)(n c b o:Nat)(l:List Int)(w:World)(hl:l.length=n)(hc:n<=c)(hbig:n<=4294967296)(wl:Words l)(ha:At w ao b o l)(an:∀ g,fx g->ef g=val l->g≠[]->0 < nth g (g.length - 1)->∀ wx,Below w.heap.size w wx->kA (nth g (g.length - 1)) wx) :
  Calls Tryz.prog 67 #[.slice ao n c] w fun e w'=>∃ s,e=.returned (.string s)/\rT s (val l)/\s.size<=40 * n + 40/\Below w.heap.size w w':=by
 go_enter Tryz.func67,Tryz.ntmps67;go_wp2_with fail;refine(mI ao n c b o l w hl hc (by omega) wl ha).mono ?_
 rintro e w1 ⟨v,g,rfl,hmg,hgo,ae,am,hgl,aj⟩;obtain⟨ag,cg,rfl,hgc,_,bg,hloc,hBg,af,_⟩:=hmg.open;have hsz1:=aj.size;by_cases ad:g=[]
 ·subst ad
  have hv0:val l=0:=by rw[<- ae]; rfl
  have HV0:=(show Hid _ from hv0)
  clear ae hv0;go_wp2;go_ret;refine⟨_,rfl,⟨[48],rfl,fun c hc=>by rw[List.mem_singleton] at hc; subst hc; decide,by rw[HV0.out]; rfl,by simp,.inl rfl⟩,?_,aj⟩
  show 1<=_; omega
 ·have hgp:0 < g.length:=Nat.pos_of_ne_zero fun e=>ad (List.eq_nil_of_length_eq_zero e)
  rcases hloc with e | rfl
  ·exact absurd e ad
  have tA:=an g hgo ae ad (am ad);have HGV:=(show Hid _ from ae)
  have aa:=af.cell (g.length - 1) (by omega);rw[Nat.zero_add] at aa;obtain⟨m,hm⟩:∃ m,g.length=m + 1:=⟨g.length - 1,by omega⟩
  rw[hm,Nat.add_sub_cancel] at aa tA;have HM:=(show Hid _ from hm)
  rw[hm]
  have hu0:(m:Int) < (m:Int) + 1:=by omega
  clear ae am an hm hgc
  have hmg1:m + 1<=2 * n + 1:=by have:=HM.out; omega
  generalize hU:nth g m=U at *;have HU:=(show Hid _ from hU)
  clear hU;go_wp2_with fail;have tB:=tA w1 aj;unfold kA at tB;clear tA;refine tB.mono ?_
  rintro e w2 ⟨v2,d0,rfl,hm2,hd2,al,ap,hd21,ar,ah⟩;have hsz2:=ah.size;have hat2:=af.keep ah;go_wp2_with fail;go_loopw [5,21] (fun tt ti wr=>∃ (k:Nat) (d:List Int),k<=m/\ti=.int .i64 k/\dt wr w1.heap.size tt d/\gV d/\Hid (dvI d=ef (g.drop (m - k)))/\0 < d.length/\d.length<=20 + 19 * k/\nth d 0≠48/\Below w1.heap.size w1 wr) (fun _ ti _=>m - (intOf ti).toNat)
  case atStart=>exact⟨0,d0,Nat.zero_le _,rfl,hm2,hd2,by show _=_; rw[al,Nat.sub_zero,qX (by have:=HM.out; omega),List.drop_of_length_le (by have:=HM.out; omega),HU.out]; simp[ef],ap,by omega,ar,ah⟩
  case round =>
   clear hm2 hd2 al ap hd21 ar ah hat2;obtain⟨k,d,hk,rfl,hmd,aw,ai,ac,hdl1,aq,ak⟩:=hrel;by_cases hlt:k < m
   ·obtain⟨h,hh⟩:∃ h:Nat,(m:Int) - 1 - k=h:=⟨m - 1 - k,by omega⟩
    have hh1:(h:Int) < (m:Int) + 1:=by omega
    have hhm:m - k=h + 1:=by omega
    have au:=af.below (ak.mono (Nat.le_refl _)) (.inr (aK aa));have hcw:=au.cell h (by have:=HM.out; omega);rw[Nat.zero_add] at hcw;have hgh:=hgo (nth g h) (lC (by have:=HM.out; omega));have HD:=ai.out;rw[hhm] at HD
    have HD:Hid (dvI d=ef (g.drop (h + 1))):=HD
    have HG:Hid (ef (g.drop (m - (k + 1)))=nth g h + 10000000000000000000 * ef (g.drop (h + 1))):=by
     show _=_
     rw[show m - (k + 1)=h from by omega,qX (by have:=HM.out; omega)]
    have HX:Hid (nth g h=nth g h):=rfl;generalize nth g h=x at *;clear au ai;go_wp2_with (go_at_call 103; refine(nU w1.heap.size _ d x _ ak.size hmd (by omega) hgh.1 hgh.2).mono ?_; rintro e w5 ⟨v5,q,rfl,hm5,hq5,hql,hqv,hb5⟩);go_roundw
    case rel =>
     refine⟨k + 1,d ++ q,by omega,by go_num,hm5,?_,?_,by simp; omega,by simp; omega,?_,ak.trans hb5⟩
     ·intro c hc;rcases List.mem_append.1 hc with e | e
      ·exact aw c e
      ·exact hq5 c e
     ·show _=_
      rw[gR,hql,hqv,HD.out,HG.out,show (10:Int) ^ 19=10000000000000000000 from rfl]; grind
     ·rw[dz ac]; exact aq
    case measure=>simp[intOf]; omega
   ·have hkm:k=m:=by omega
    subst hkm;rw[Nat.sub_self,List.drop_zero] at ai;obtain⟨gb,cb,rfl,hdc,hgb,hatd,_⟩:=hmd.open ac
    have ab:=run_loadCells_list (P:=Tryz.prog) wr ⟨gb,0,none⟩ (d.map (Value.int .u8)) (fun j u hu=>by
     rw[List.getElem?_map] at hu
     have hj:j < d.length:=by
      rcases Nat.lt_or_ge j d.length with hj | hj
      ·exact hj
      ·rw[List.getElem?_eq_none hj] at hu; simp at hu
     rw[List.getElem?_eq_getElem hj] at hu;simp at hu;subst hu;have:=hatd.cell j hj;rw[bT hj] at this;rw[<- this];by_cases hj0:j=0
     ·subst hj0; exact congrArg wr.cell? (by simp[Addr.add])
     ·exact congrArg wr.cell? (by simp[Addr.add,hj0]))
    rw[List.length_map] at ab;have av:=(run_convert_bytes_string (P:=Tryz.prog) wr 96 9 5 (some ⟨gb,0,none⟩) d.length cb cA uD iK).trans (run_bytesToString wr ⟨gb,0,none⟩ d.length cb d ab);obtain⟨S,hS⟩:∃ S,d.foldl (fun r n=>r.push (UInt8.ofNat n.toNat)) ByteArray.empty=S:=⟨_,rfl⟩
    rw[hS] at av;have HS:=(show Hid _ from hS)
    clear hS ab
    have HB:Below w.heap.size w wr:=aj.trans (ak.mono hsz1);go_wp2;go_ret;have e1:=re d ByteArray.empty;rw[HS.out] at e1
    have e2:S.data.toList.map (fun c=>(c.toNat:Int))=d:=by
     rw[e1];simp only[show ByteArray.empty.data.toList=[] from rfl,List.nil_append,List.map_map]
     conv=>rhs; rw[<- List.map_id d]
     apply List.map_congr_left;intro c hc;have:=aw c hc;simp[Function.comp,UInt8.toNat_ofNat'];omega
    refine⟨S,rfl,⟨d,e2,aw,by rw[ai.out,HGV.out],ac,.inr aq⟩,?_,HB⟩;have:S.size=d.length:=by rw[<- e2]; simp
    omega
end
end Go.Proofs.YthfepflplbahkaaGreatDoor
namespace Go.Proofs
open Go.Shelf
def Tryz.uE:Go.Shelf.Ren:=⟨fun | 162=>68 | 232=>104 | 227=>105 | 234=>106 | 236=>107 | 228=>162 | 271=>163 | 151=>164 | 120=>203 | 197=>204 | 152=>205 | 260=>235 | 137=>236 | 119=>237 | 224=>238 | 225=>239 | 217=>253 | 266=>259 | n=>n,fun | 9=>9 | 4=>4 | 3=>3 | 5=>5 | 117=>177 | 116=>176 | 0=>0 | 124=>180 | 21=>21 | 105=>247 | 46=>217 | 119=>229 | 139=>334 | 138=>333 | n=>n,fun | 3=>3 | 4=>4 | n=>n⟩
theorem Tryz.G9:Go.Proofs.Lays.n162 Tryz.prog Tryz.uE:={
 mixed:=by kernel_rfl
 f119:=Tryz.func237.trans (congrArg some (by kernel_rfl))
 f120:=Tryz.func203.trans (congrArg some (by kernel_rfl))
 f137:=Tryz.func236.trans (congrArg some (by kernel_rfl))
 f151:=Tryz.func164.trans (congrArg some (by kernel_rfl))
 f152:=Tryz.func205.trans (congrArg some (by kernel_rfl))
 f162:=Tryz.func68.trans (congrArg some (by kernel_rfl))
 f197:=Tryz.func204.trans (congrArg some (by kernel_rfl))
 f217:=Tryz.func253.trans (congrArg some (by kernel_rfl))
 f224:=Tryz.func238.trans (congrArg some (by kernel_rfl))
 f225:=Tryz.func239.trans (congrArg some (by kernel_rfl))
 f227:=Tryz.func105.trans (congrArg some (by kernel_rfl))
 f228:=Tryz.func162.trans (congrArg some (by kernel_rfl))
 f232:=Tryz.func104.trans (congrArg some (by kernel_rfl))
 f234:=Tryz.func106.trans (congrArg some (by kernel_rfl))
 f236:=Tryz.func107.trans (congrArg some (by kernel_rfl))
 f260:=Tryz.func235.trans (congrArg some (by kernel_rfl))
 f266:=Tryz.func259.trans (congrArg some (by kernel_rfl))
 f271:=Tryz.func163.trans (congrArg some (by kernel_rfl))
 t0:=Tryz.underlying0
 a0:=Tryz.isAgg0
 z0:=Tryz.sizeOf0
 v0:=Tryz.zeroValue0
 t3:=Tryz.underlying3
 a3:=Tryz.isAgg3
 z3:=Tryz.sizeOf3
 v3:=Tryz.zeroValue3
 t4:=Tryz.underlying4
 a4:=Tryz.isAgg4
 z4:=Tryz.sizeOf4
 v4:=Tryz.zeroValue4
 t5:=Tryz.underlying5
 a5:=Tryz.isAgg5
 z5:=Tryz.sizeOf5
 v5:=Tryz.zeroValue5
 t9:=Tryz.underlying9
 a9:=Tryz.isAgg9
 z9:=Tryz.sizeOf9
 v9:=Tryz.zeroValue9
 t21:=Tryz.underlying21
 a21:=Tryz.isAgg21
 z21:=Tryz.sizeOf21
 v21:=Tryz.zeroValue21
 t46:=Tryz.underlying217
 a46:=Tryz.isAgg217
 z46:=Tryz.sizeOf217
 v46:=Tryz.zeroValue217
 t105:=Tryz.underlying247
 a105:=Tryz.isAgg247
 z105:=Tryz.sizeOf247
 v105:=Tryz.zeroValue247
 t116:=Tryz.underlying176
 a116:=Tryz.isAgg176
 z116:=Tryz.sizeOf176
 t117:=Tryz.underlying177
 a117:=Tryz.isAgg177
 z117:=Tryz.sizeOf177
 v117:=Tryz.zeroValue177
 t119:=Tryz.underlying229
 a119:=Tryz.isAgg229
 z119:=Tryz.sizeOf229
 t124:=Tryz.underlying180
 a124:=Tryz.isAgg180
 z124:=Tryz.sizeOf180
 v124:=Tryz.zeroValue180
 t138:=Tryz.underlying333
 a138:=Tryz.isAgg333
 z138:=Tryz.sizeOf333
 v138:=Tryz.zeroValue333
 t139:=Tryz.underlying334
 a139:=Tryz.isAgg334
 z139:=Tryz.sizeOf334
 v139:=Tryz.zeroValue334
 g3:=by kernel_rfl
 g4:=by kernel_rfl }
open Go.RowKit in
theorem Tryz.strings_TrimRight_one (s:ByteArray) (c:UInt8) (hc:c.toNat < 128) (w:World) (hs:s.size<=9223372036854775807) :
  Calls Tryz.prog 68 #[.string s,.string ⟨#[c]⟩] w fun e w'=>e=.returned (.string ⟨(Lib.trimRightB s.data.toList c).toArray⟩)/\w'=w:=Any.strings_TrimRight_one Tryz.G9 s c hc w hs
def Tryz.sB:Go.Shelf.Ren:=⟨fun | 288=>160 | 283=>199 | 284=>200 | 285=>201 | 286=>202 | 129=>139 | 317=>231 | 318=>232 | 319=>233 | 320=>234 | 337=>251 | 338=>252 | n=>n,fun | 37=>96 | 53=>22 | 3=>3 | 4=>4 | 9=>9 | 171=>284 | 0=>0 | 173=>286 | 212=>314 | 51=>315 | 5=>5 | 20=>20 | 213=>316 | 46=>217 | 232=>339 | 233=>340 | n=>n,fun | 17=>2 | 18=>6 | 19=>7 | n=>n⟩
theorem Tryz.vf:Go.Proofs.LaysM.n288 Tryz.prog Tryz.sB:={
 mixed:=by kernel_rfl
 f129:=Tryz.func139.trans (congrArg some (by kernel_rfl))
 f283:=Tryz.func199.trans (congrArg some (by kernel_rfl))
 f284:=Tryz.func200.trans (congrArg some (by kernel_rfl))
 f285:=Tryz.func201.trans (congrArg some (by kernel_rfl))
 f286:=Tryz.func202.trans (congrArg some (by kernel_rfl))
 f288:=Tryz.func160.trans (congrArg some (by kernel_rfl))
 f317:=Tryz.func231.trans (congrArg some (by kernel_rfl))
 f318:=Tryz.func232.trans (congrArg some (by kernel_rfl))
 f319:=Tryz.func233.trans (congrArg some (by kernel_rfl))
 f320:=Tryz.func234.trans (congrArg some (by kernel_rfl))
 f337:=Tryz.func251.trans (congrArg some (by kernel_rfl))
 f338:=Tryz.func252.trans (congrArg some (by kernel_rfl))
 t0:=Tryz.underlying0
 a0:=Tryz.isAgg0
 z0:=Tryz.sizeOf0
 v0:=Tryz.zeroValue0
 t3:=Tryz.underlying3
 a3:=Tryz.isAgg3
 z3:=Tryz.sizeOf3
 v3:=Tryz.zeroValue3
 t4:=Tryz.underlying4
 a4:=Tryz.isAgg4
 z4:=Tryz.sizeOf4
 v4:=Tryz.zeroValue4
 t5:=Tryz.underlying5
 a5:=Tryz.isAgg5
 z5:=Tryz.sizeOf5
 v5:=Tryz.zeroValue5
 t9:=Tryz.underlying9
 a9:=Tryz.isAgg9
 z9:=Tryz.sizeOf9
 v9:=Tryz.zeroValue9
 t20:=Tryz.underlying20
 a20:=Tryz.isAgg20
 z20:=Tryz.sizeOf20
 v20:=Tryz.zeroValue20
 t37:=Tryz.underlying96
 a37:=Tryz.isAgg96
 z37:=Tryz.sizeOf96
 v37:=Tryz.zeroValue96
 t46:=Tryz.underlying217
 a46:=Tryz.isAgg217
 z46:=Tryz.sizeOf217
 v46:=Tryz.zeroValue217
 t51:=Tryz.underlying315
 a51:=Tryz.isAgg315
 z51:=Tryz.sizeOf315
 v51:=Tryz.zeroValue315
 t53:=Tryz.underlying22
 a53:=Tryz.isAgg22
 z53:=Tryz.sizeOf22
 v53:=Tryz.zeroValue22
 t171:=Tryz.underlying284
 a171:=Tryz.isAgg284
 z171:=Tryz.sizeOf284
 v171:=Tryz.zeroValue284
 t173:=Tryz.underlying286
 a173:=Tryz.isAgg286
 z173:=Tryz.sizeOf286
 v173:=Tryz.zeroValue286
 t212:=Tryz.underlying314
 a212:=Tryz.isAgg314
 z212:=Tryz.sizeOf314
 v212:=Tryz.zeroValue314
 t213:=Tryz.underlying316
 a213:=Tryz.isAgg316
 z213:=Tryz.sizeOf316
 t232:=Tryz.underlying339
 a232:=Tryz.isAgg339
 z232:=Tryz.sizeOf339
 v232:=Tryz.zeroValue339
 t233:=Tryz.underlying340
 a233:=Tryz.isAgg340
 z233:=Tryz.sizeOf340
 v233:=Tryz.zeroValue340
 g17:=by kernel_rfl
 g18:=by kernel_rfl
 g19:=by kernel_rfl
 i0:=by kernel_rfl
 i3:=by kernel_rfl
 i4:=by kernel_rfl
 i5:=by kernel_rfl
 i9:=by kernel_rfl
 i20:=by kernel_rfl
 i37:=by kernel_rfl
 i46:=by kernel_rfl
 i51:=by kernel_rfl
 i53:=by kernel_rfl
 i171:=by kernel_rfl
 i173:=by kernel_rfl
 i212:=by kernel_rfl
 i232:=by kernel_rfl
 i233:=by kernel_rfl
 m17:=by kernel_rfl
 m18:=by kernel_rfl
 m19:=by kernel_rfl }
open Go.RowKit Go.Sort Go.Lib in
theorem Tryz.internal_strconv_AppendUint_10_small (B n u:Nat) (hu:u < 100) (d:Value) (xs:List Value) (w:World) (b:w.ownsRow B 5 1 d n xs) (c:B<=w.heap.size) (a:n + 20<=140737488355328) :
  Calls Tryz.prog 160 #[d,.int .u64 u,.int .i64 10] w fun e w'=>∃ v',e=.returned v'/\w'.ownsRow B 5 1 v' (n + (Lib.decDigits u).length) (xs ++ Lib.byteCells (Lib.decDigits u))/\Below B w w'/\Lib.OthersKept 5 none w w':=Any.internal_strconv_AppendUint_10_small Tryz.vf B n u hu d xs w b c a
open Go.RowKit Go.Sort Go.Lib in
theorem Tryz.internal_strconv_AppendUint_10_big (B n u:Nat) (hu:100≤u) (a:u < 18446744073709551616) (g:Value) (xs:List Value) (w:World) (d:w.ownsRow B 5 1 g n xs) (f:B≤w.heap.size) (c:n + 20≤140737488355328) (b:Lib.TabIs Tryz.prog w "internal/strconv.uint64pow10" .u64 Lib.pow10Tab) :
  Calls Tryz.prog 160 #[g,.int .u64 u,.int .i64 10] w fun e w'=>∃ v',e=.returned v'/\w'.ownsRow B 5 1 v' (n + (Lib.decDigits u).length) (xs ++ Lib.byteCells (Lib.decDigits u))/\Below B w w'/\Lib.OthersKept 5 none w w':=Any.internal_strconv_AppendUint_10_big Tryz.vf B n u hu a g xs w d f c b
end Go.Proofs
namespace Go.Proofs.YthfepflplbahkaaGreatDoor
open Go.RowKit Lim
section
variable {u:Nat}{e:Ending}{w:World}
theorem vJ{n:Nat}(h:n < 256):(UInt8.ofNat n).toNat=n:=by simp[Nat.mod_eq_of_lt h]
theorem ES(u:Nat):gV ((Lib.decDigits u).map fun c=>(c.toNat:Int))/\dvI ((Lib.decDigits u).map fun c=>(c.toNat:Int))=u/\0 < (Lib.decDigits u).length/\(0 < u->nth ((Lib.decDigits u).map fun c=>(c.toNat:Int)) 0≠48):=by
 induction u using Nat.strongRecOn with
 | ind u ih =>
  by_cases h:u < 10
  ·rw[Lib.decDigits,dif_pos h]
   have e:(UInt8.ofNat (48 + u)).toNat=48 + u:=vJ (by omega);simp only[List.map_cons,List.map_nil,e];refine⟨fun c hc => ?_,?_,by simp,fun a => ?_⟩
   ·rw[List.mem_singleton] at hc; omega
   ·simp[dvI]; omega
   ·rw[bW]; omega
  ·rw[Lib.decDigits,dif_neg h];obtain⟨i1,i2,i3,i4⟩:=ih (u / 10) (by omega)
   have e:(UInt8.ofNat (48 + u % 10)).toNat=48 + u % 10:=vJ (by omega);simp only[List.map_append,List.map_cons,List.map_nil,e];refine⟨i1.snoc (by omega) (by omega),?_,by simp,fun _ => ?_⟩
   ·rw[qc,i2]; omega
   ·rw[dz (by simpa using i3)]; exact i4 (by omega)
theorem pN(l:List UInt8):Lib.byteCells l=(l.map fun c=>(c.toNat:Int)).map (Value.int .u8):=by
 simp[Lib.byteCells]
theorem vy{a w':World}(f:0 < u)(b:(Lib.decDigits u).length<=20)(h:∃ v',e=.returned v'/\w'.ownsRow a.heap.size 5 1 v' (0 + (Lib.decDigits u).length) ([] ++ Lib.byteCells (Lib.decDigits u))/\Below a.heap.size a w'/\Lib.OthersKept 5 none a w') :
  ∃ v d,e=.returned v/\dt w' a.heap.size v d/\gV d/\dvI d=(u:Int)/\0 < d.length/\d.length<=20/\nth d 0≠48/\Below a.heap.size a w':=by
 obtain⟨v,rfl,c,g,_⟩:=h;obtain⟨d1,d2,d3,d4⟩:=ES u;refine⟨v,_,rfl,?_,d1,d2,by simpa using d3,by simpa using b,d4 f,g⟩;unfold dt;rw[<- pN,List.length_map];rw[Nat.zero_add,List.nil_append] at c;exact c
theorem Ia(h:u < 18446744073709551616):(Lib.decDigits u).length<=20:=by
 by_cases a:u=0
 ·subst a; rw[Lib.decDigits_one (by decide)]; simp
 ·have:=Lib.numDigits_eq u (by omega) h;rw[Lib.decDigits_length];split at this<;>omega
theorem qZ(u:Nat)(h0:0 < u)(h1:u < 100)(wx:World):kA (u:Int) wx:=by
 unfold kA
 have hown:wx.ownsRow wx.heap.size 5 1 (.slice none 0 0) 0 []:=World.ownsRow_nil _ _ _ _;have t:=Tryz.internal_strconv_AppendUint_10_small wx.heap.size 0 u h1 (.slice none 0 0) [] wx hown (Nat.le_refl _) (by decide);go_enter Tryz.func102,Tryz.ntmps102;go_wp2_with fail;refine t.mono ?_
 intro e w' h;have hp:=vy h0 (Ia (by omega)) h;obtain⟨v,d,rfl,r⟩:=hp;go_wp2;go_ret;exact⟨v,d,rfl,r⟩
theorem Gt(u:Nat)(h0:100≤u)(h1:u < 18446744073709551616)(wx:World)(aa:Lib.TabIs Tryz.prog wx "internal/strconv.uint64pow10" .u64 Lib.pow10Tab):kA (u:Int) wx:=by
 unfold kA
 have hown:wx.ownsRow wx.heap.size 5 1 (.slice none 0 0) 0 []:=World.ownsRow_nil _ _ _ _;have t:=Tryz.internal_strconv_AppendUint_10_big wx.heap.size 0 u h0 h1 (.slice none 0 0) [] wx hown (Nat.le_refl _) (by decide) aa;clear aa;go_enter Tryz.func102,Tryz.ntmps102;go_wp2_with fail;refine t.mono ?_
 intro e w' h;have hp:=vy (by omega) (Ia (by omega)) h;obtain⟨v,d,rfl,r⟩:=hp;go_wp2;go_ret;exact⟨v,d,rfl,r⟩
theorem app_any(b:Lib.TabIs Tryz.prog w "internal/strconv.uint64pow10" .u64 Lib.pow10Tab)(u:Int)(c:0 < u)(d:u < 18446744073709551616)(a:World)(hb:Below w.heap.size w a):kA u a:=by
 obtain⟨n,rfl⟩:∃ n:Nat,u=(n:Int):=⟨u.toNat,by omega⟩
 by_cases h:n < 100
 ·exact qZ n (by omega) h a
 ·exact Gt n (by omega) (by omega) a (Lib.tabBelow_of_tabIs b a hb)
end
end Go.Proofs.YthfepflplbahkaaGreatDoor
namespace Go.Proofs.YthfepflplbahkaaGreatDoor
open Go.RowKit Lim
section
variable {k:Nat}{x:Int}
def dU:Nat->Int->List Int
 | 0,_=>[]
 | k + 1,x=>dU k (x / 10) ++ [48 + x % 10]
theorem eA(k:Nat)(x:Int):(dU k x).length=k:=by
 induction k generalizing x with
 | zero=>rfl
 | succ k ih=>simp[dU,ih]
theorem oH(h:0<=x):gV (dU k x):=by
 induction k generalizing x with
 | zero=>intro c hc; simp[dU] at hc
 | succ k ih=>exact(ih (by omega)).snoc (by omega) (by omega)
theorem uM(h:0<=x):dvI (dU k x)=x % 10 ^ k:=by
 induction k generalizing x with
 | zero=>simp[dU,dvI]
 | succ k ih =>
  rw[dU,qc,ih (by omega),Int.pow_succ]
  have c:(0:Int) < 10 ^ k:=Int.pow_pos (by decide);have e1:=Int.mul_ediv_add_emod (x / 10) (10 ^ k);have e2:=Int.mul_ediv_add_emod x 10;have e3:=Int.emod_nonneg (x / 10) (show (10:Int) ^ k≠0 by omega);have e:=Int.emod_lt_of_pos (x / 10) c;generalize x / 10 % 10 ^ k=r at *;generalize hq:x / 10 / 10 ^ k=q at *;generalize (10:Int) ^ k=P at *
  have d:x=(10 * r + x % 10) + (P * 10) * q:=by
   have:10 * (P * q + r) + x % 10=x:=by rw[e1]; omega
   rw[<- this]; rw[Int.mul_add]; have:10 * (P * q)=P * 10 * q:=by rw[<- Int.mul_assoc,Int.mul_comm 10 P]
   omega
  conv=>rhs; rw[d]
  rw[Int.add_mul_emod_self_left,Int.emod_eq_of_lt (a:=10 * r + x % 10) (b:=P * 10) (by omega) (by omega)];omega
theorem pD(k m:Nat)(x:Int)(h:0<=x):dU (k + m) x=dU k (x / 10 ^ m) ++ dU m x:=by
 induction m generalizing x with
 | zero=>simp[dU]
 | succ m ih =>
  rw[Nat.add_succ,dU,ih _ (by omega),dU,List.append_assoc];congr 2
  rw[Int.pow_succ,Int.mul_comm,<- Int.ediv_ediv_of_nonneg (by decide)]
theorem Db(k:Nat)(x:Int):dU (k + 2) x=dU k (x / 100) ++ [48 + x % 100 / 10,48 + x % 100 % 10]:=by
 rw[dU,dU,List.append_assoc]
 have e1:x / 10 / 10=x / 100:=by omega
 have e2:x / 10 % 10=x % 100 / 10:=by omega
 have e3:x % 10=x % 100 % 10:=by omega
 rw[e1,e2,e3]; rfl
end
end Go.Proofs.YthfepflplbahkaaGreatDoor
namespace Go.Proofs.YthfepflplbahkaaGreatDoor
open Go.RowKit Lim
section
variable {l g:List Int}{x:Int}
theorem muldiv_one(ao:Option Addr)(n c b o:Nat)(ao':Option Addr)(n' c' b' o':Nat)(ad:Option Addr)(nd cd bd od:Nat)(l l' ld:List Int)(w:World)(hl:l.length=n)(hl':l'.length=n')(hld:ld.length=nd)(hc:n<=c)(hc':n'<=c')(hcd:nd<=cd)(hbig:n<=274877906944)(hbig':n'<=274877906944)(hbigd:nd<=274877906944)(wl:Words l)(wl':Words l')(wd:Words ld)(ha:At w ao b o l)(ha':At w ao' b' o' l')(had:At w ad bd od ld)(hge:val ld<=val l * val l')(h1:aJ ld=1) :
  Calls Tryz.prog 93 #[.slice ao n c,.slice ao' n' c',.slice ad nd cd] w fun e w'=>ke w w' e (val l * val l') (val ld) (n + n') nd:=by
 go_enter Tryz.func93,Tryz.ntmps93;go_wp2_with fail;refine(oB ao n c b o ao' n' c' b' o' l l' w hl hl' hc hc' (by omega) (by omega) wl wl' ha ha').mono ?_
 rintro e w1 ⟨v,r,rfl,hnew,hI,hlen,aa⟩;obtain⟨ar,br,or',cr,rfl,hrc,hbr,hatr,_⟩:=hnew.is;have had1:=had.keep aa;have hsz:=aa.size;have t2:=div_one ar r.length cr br or' ad nd cd bd od r ld w1 rfl hld hrc hcd (by omega) (by omega) hI.1 wd hatr had1 (by rw[hI.2.2]; exact hge) h1;rw[hI.2.2] at t2;go_wp2_with fail;refine t2.mono ?_
 rintro e w2 ⟨q,u,rq,ru,rfl,hq,hu,hIq,hIu,hlq,hlu,hb2⟩;go_wp2;go_ret3;exact⟨q,u,rq,ru,rfl,hq.mono hsz,hu.mono hsz,hIq,hIu,by omega,by omega,aa.trans (hb2.mono hsz)⟩
theorem Gi(w:World)(x y:Int):At ((w.alloc (.cells #[.int .u64 x] 22)).alloc (.cells #[.int .u64 y] 22)) (some ⟨w.heap.size,0,none⟩) w.heap.size 0 [x] /\
  At ((w.alloc (.cells #[.int .u64 x] 22)).alloc (.cells #[.int .u64 y] 22)) (some ⟨w.heap.size + 1,0,none⟩) (w.heap.size + 1) 0 [y]/\Below w.heap.size w ((w.alloc (.cells #[.int .u64 x] 22)).alloc (.cells #[.int .u64 y] 22)):=by
 have b:=Row.kW w x;have a:=Row.kW (w.alloc (.cells #[.int .u64 x] 22)) y;have b1:=ae w (.cells #[.int .u64 x] 22);have b2:=ae (w.alloc (.cells #[.int .u64 x] 22)) (.cells #[.int .u64 y] 22)
 have e:(w.alloc (.cells #[.int .u64 x] 22)).heap.size=w.heap.size + 1:=by simp
 rw[e] at a;exact⟨b.at.keep b2,a.at,b1.trans (b2.mono (by rw[e]; omega))⟩
theorem built21(w:World)(x a y:Int):At ((w.alloc (.cells #[.int .u64 x,.int .u64 a] 22)).alloc (.cells #[.int .u64 y] 22)) (some ⟨w.heap.size,0,none⟩) w.heap.size 0 [x,a] /\
  At ((w.alloc (.cells #[.int .u64 x,.int .u64 a] 22)).alloc (.cells #[.int .u64 y] 22)) (some ⟨w.heap.size + 1,0,none⟩) (w.heap.size + 1) 0 [y]/\Below w.heap.size w ((w.alloc (.cells #[.int .u64 x,.int .u64 a] 22)).alloc (.cells #[.int .u64 y] 22)):=by
 have c:=Row.xh w x a;have b:=Row.kW (w.alloc (.cells #[.int .u64 x,.int .u64 a] 22)) y;have b1:=ae w (.cells #[.int .u64 x,.int .u64 a] 22);have b2:=ae (w.alloc (.cells #[.int .u64 x,.int .u64 a] 22)) (.cells #[.int .u64 y] 22)
 have e:(w.alloc (.cells #[.int .u64 x,.int .u64 a] 22)).heap.size=w.heap.size + 1:=by simp
 rw[e] at b;exact⟨c.at.keep b2,b.at,b1.trans (b2.mono (by rw[e]; omega))⟩
theorem kW(w:World)(x:Int):At (w.alloc (.cells #[.int .u64 x] 22)) (some ⟨w.heap.size,0,none⟩) w.heap.size 0 [x]/\Below w.heap.size w (w.alloc (.cells #[.int .u64 x] 22)) :=
 ⟨(Row.kW w x).at,ae _ _⟩
theorem xh(w:World)(x y:Int):At (w.alloc (.cells #[.int .u64 x,.int .u64 y] 22)) (some ⟨w.heap.size,0,none⟩) w.heap.size 0 [x,y]/\Below w.heap.size w (w.alloc (.cells #[.int .u64 x,.int .u64 y] 22)) :=
 ⟨(Row.xh w x y).at,ae _ _⟩
theorem builtB(w:World)(x y:Int):AtB (w.alloc (.cells #[.int .u8 x,.int .u8 y] 5)) (some ⟨w.heap.size,0,none⟩) w.heap.size 0 [x,y]/\Below w.heap.size w (w.alloc (.cells #[.int .u8 x,.int .u8 y] 5)):=by
 refine⟨uF.at ?_,ae _ _⟩
 show (w.heap.push _)[w.heap.size]? = _
 rw[Array.getElem?_push_size]; rfl
theorem built111(w:World)(x y z:Int):At (((w.alloc (.cells #[.int .u64 x] 22)).alloc (.cells #[.int .u64 y] 22)).alloc (.cells #[.int .u64 z] 22)) (some ⟨w.heap.size,0,none⟩) w.heap.size 0 [x] /\
  At (((w.alloc (.cells #[.int .u64 x] 22)).alloc (.cells #[.int .u64 y] 22)).alloc (.cells #[.int .u64 z] 22)) (some ⟨w.heap.size + 1,0,none⟩) (w.heap.size + 1) 0 [y] /\
  At (((w.alloc (.cells #[.int .u64 x] 22)).alloc (.cells #[.int .u64 y] 22)).alloc (.cells #[.int .u64 z] 22)) (some ⟨w.heap.size + 2,0,none⟩) (w.heap.size + 2) 0 [z] /\
  Below w.heap.size w (((w.alloc (.cells #[.int .u64 x] 22)).alloc (.cells #[.int .u64 y] 22)).alloc (.cells #[.int .u64 z] 22)):=by
 obtain⟨a1,a2,b⟩:=Gi w x y;have a:=Row.kW ((w.alloc (.cells #[.int .u64 x] 22)).alloc (.cells #[.int .u64 y] 22)) z;have b3:=ae ((w.alloc (.cells #[.int .u64 x] 22)).alloc (.cells #[.int .u64 y] 22)) (.cells #[.int .u64 z] 22)
 have e:((w.alloc (.cells #[.int .u64 x] 22)).alloc (.cells #[.int .u64 y] 22)).heap.size=w.heap.size + 2:=by simp
 rw[e] at a;exact⟨a1.keep b3,a2.keep b3,a.at,b.trans (b3.mono (by rw[e]; omega))⟩
theorem join{w wa w':World}(b:Below w.heap.size w wa)(h:Below wa.heap.size wa w'):Below w.heap.size w w':=b.trans (h.mono b.size)
theorem jU(h:gV l):0<=dvI l/\dvI l < 10 ^ l.length:=by
 induction l with
 | nil=>simp[dvI]
 | cons c l ih =>
  have hc:=h c (by simp);have:=ih fun x hx=>h x (by simp[hx])
  have e:dvI (c :: l)=(c - 48) * 10 ^ l.length + dvI l:=by rw[show c :: l=[c] ++ l from rfl,gR]; simp[dvI]
  have a:(0:Int) < 10 ^ l.length:=Int.pow_pos (by decide)
  have d:0<=(c - 48) * 10 ^ l.length:=Int.mul_nonneg (by omega) (Int.le_of_lt a)
  have b:(c - 48) * 10 ^ l.length<=9 * 10 ^ l.length:=Int.mul_le_mul_of_nonneg_right (by omega) (Int.le_of_lt a);rw[e,List.length_cons,Int.pow_succ]; omega
theorem dvI_ge(h:gV l)(b:0 < l.length)(d:nth l 0≠48):10 ^ (l.length - 1)<=dvI l:=by
 cases l with
 | nil=>simp at b
 | cons c l =>
  rw[bW] at d;have hc:=h c (by simp);have hb:=jU (l:=l) fun x hx=>h x (by simp[hx])
  have e:dvI (c :: l)=(c - 48) * 10 ^ l.length + dvI l:=by rw[show c :: l=[c] ++ l from rfl,gR]; simp[dvI]
  have a:(0:Int) < 10 ^ l.length:=Int.pow_pos (by decide);have:1 * 10 ^ l.length<=(c - 48) * 10 ^ l.length:=Int.mul_le_mul_of_nonneg_right (by omega) (Int.le_of_lt a);rw[e,List.length_cons,Nat.add_sub_cancel]; omega
theorem rS:∀ {a b:List Int},gV a->gV b->a.length=b.length->dvI a=dvI b->a=b
 | [],[],_,_,_,_=>rfl
 | x :: a,y :: b,ha,hb,hl,hv=>by
  have ha':gV a:=fun z g=>ha z (by simp[g])
  have f:gV b:=fun z g=>hb z (by simp[g])
  have d:a.length=b.length:=by simpa using hl
  have i:=jU ha';have j:=jU f
  have e1:dvI (x :: a)=(x - 48) * 10 ^ b.length + dvI a:=by rw[show x :: a=[x] ++ a from rfl,gR,d]; simp[dvI]
  have e2:dvI (y :: b)=(y - 48) * 10 ^ b.length + dvI b:=by rw[show y :: b=[y] ++ b from rfl,gR]; simp[dvI]
  rw[e1,e2] at hv;rw[d] at i
  have h:(0:Int) < 10 ^ b.length:=Int.pow_pos (by decide)
  have e:x=y:=by
   rcases Int.lt_trichotomy x y with c | c | c
   ·have:(x - 48 + 1) * 10 ^ b.length<=(y - 48) * 10 ^ b.length:=Int.mul_le_mul_of_nonneg_right (by omega) (Int.le_of_lt h);rw[Int.add_mul] at this; omega
   ·exact c
   ·have:(y - 48 + 1) * 10 ^ b.length<=(x - 48) * 10 ^ b.length:=Int.mul_le_mul_of_nonneg_right (by omega) (Int.le_of_lt h);rw[Int.add_mul] at this; omega
  subst e;rw[rS ha' f d (by omega)]
theorem xC{a b:List Int}(c:gV a)(hb:gV b)(f:0 < a.length)(d:0 < b.length)(ka:a.length=1\/nth a 0≠48)(kb:b.length=1\/nth b 0≠48)(hv:dvI a=dvI b):a=b:=by
 apply rS c hb _ hv
 have key:∀ {a b:List Int},gV a->gV b->0 < a.length->0 < b.length->(b.length=1\/nth b 0≠48)->dvI a=dvI b->¬ a.length < b.length:=by
  intro a b c hb f d kb hv g;have h:=(jU c).2;rcases kb with e | e
  ·omega
  ·have i:=dvI_ge hb d e;have:=Dz (show a.length<=b.length - 1 by omega);omega
 have k1:=key c hb f d kb hv;have k2:=key hb c d f ka hv.symm;omega
theorem Gy{S:ByteArray}{n:Int}(h:rT S n)(l:List UInt8)(m:(l.map (fun c=>(c.toNat:Int))).all (fun c=>decide (48<=c/\c<=57))=true)(hv:dvI (l.map (fun c=>(c.toNat:Int)))=n)(p:0 < l.length)(r:l.length=1\/nth (l.map (fun c=>(c.toNat:Int))) 0≠48):S=⟨l.toArray⟩:=by
 obtain⟨d,e,f,j,i,g⟩:=h.bytes
 have q:gV (l.map (fun c=>(c.toNat:Int))):=fun c hc=>by
  rw[List.all_eq_true] at m; simpa using m c hc
 have:=xC f q i (by simpa using p) g (by simpa using r) (j.trans hv.symm);rw[<- e] at this
 have k:S.data.toList=l:=List.map_inj_right (fun a b o=>UInt8.toNat_inj.1 (by omega)) |>.1 this
 cases S with
 | mk arr=>simp at k; simp[<- k]
theorem text_big(h:fx g)(hv:ef g=18446744073709551616)(o:g≠[])(c:0 < nth g (g.length - 1)):nth g (g.length - 1)=1:=by
 match g,h,hv,o,c with
 | [x],h,hv,_,_=>simp only[ef] at hv; have:=h x (by simp); omega
 | [x,y],h,hv,_,_ =>
  simp only[ef] at hv; have:=h x (by simp)
  show nth [x,y] 1=1
  rw[cV,bW]; omega
 | x :: y :: z :: g,h,hv,_,c =>
  exfalso;simp only[ef] at hv;have hx:=h x (by simp);have hy:=h y (by simp);have r:=h z (by simp);have s:=fT (l:=g) (fun a e=>h a (by simp[e]));by_cases k:ef g=0
  ·by_cases m:z=0
   ·have d:∀ l:List Int,fx l->ef l=0->∀ i,nth l i=0:=by
     intro l
     induction l with
     | nil=>intro _ _ i; exact zC i
     | cons a l ih =>
      intro j f i;simp only[ef] at f;have t:=j a (by simp);have q:=fT (l:=l) (fun b hb=>j b (by simp[hb]))
      cases i with
      | zero=>rw[bW]; omega
      | succ i=>rw[cV]; exact ih (fun b hb=>j b (by simp[hb])) (by omega) i
    have p:=d g (fun a e=>h a (by simp[e])) k
    cases g with
    | nil =>
     simp only[List.length_cons,List.length_nil] at c;rw[show nth [x,y,z] (0 + 1 + 1 + 1 - 1)=z from rfl] at c;omega
    | cons a g =>
     have n:=p g.length;rw[show (x :: y :: z :: a :: g).length - 1=g.length + 1 + 1 + 1 from by simp,cV,cV,cV,n] at c;omega
   ·omega
  ·omega
theorem w1(h0:0<=x)(h1:x < 18446744073709551616):Words [x]:=Words.cons h0 h1 Words.nil
theorem w2{y:Int}(h0:0<=x)(h1:x < 18446744073709551616)(h2:0<=y)(h3:y < 18446744073709551616):Words [x,y]:=Words.cons h0 h1 (w1 h2 h3)
end
end Go.Proofs.YthfepflplbahkaaGreatDoor
namespace Go.Proofs.YthfepflplbahkaaGreatDoor
open Go.RowKit Lim
section
variable {w w':World}{ao:Option Addr}{n c X g:Nat}{x:Int}{l d:List Int}{ops:Array Oper}{K:Act->World->Prop}
theorem nSmall(h:bQ w ao n c x)(hn:n<=1099511627776)(hx:x < 18446744073709551616) :
  Calls Tryz.prog 110 #[.slice ao n c] w fun e w'=>e=.returned (.tuple #[.int .u64 x,.bool true])/\Below w.heap.size w w':=by
 obtain⟨b,o,l,h1,h2,h3,h4⟩:=h.ex
 have aa:aJ l=n:=h3.2.1.trans h1
 have hn1:n<=1:=by
  rcases Nat.lt_or_ge 1 n with e | e
  ·have h5:=ft h3.1 (by omega);have h6:=jq (show 1<=aJ l - 1 by omega);rw[h3.2.2] at h5
   have h7:(18446744073709551616:Int) ^ 1=18446744073709551616:=by decide
   omega
  ·exact e
 have t:=bL ao n c l w h1 h2 (by omega) h4.cells;rw[aa] at t;have hv:=h3.2.2;rcases(show n=0\/n=1 by omega) with e | e
 ·subst e;obtain rfl:l=[]:=List.eq_nil_of_length_eq_zero h1
  have hx0:x=0:=by rw[<- hv]; rfl
  subst hx0;clear hv aa;go_enter Tryz.func110,Tryz.ntmps110;go_wp2_with fail;refine t.mono ?_
  rintro e w' ⟨rfl,rfl⟩;go_wp2;go_ret2;exact⟨rfl,Below.refl _ _⟩
 ·subst e;obtain⟨y,rfl⟩:∃ y,l=[y]:=by
   match l,h1 with
   | [y],_=>exact⟨y,rfl⟩
  have hy:y=x:=by rw[<- hv]; simp[val]
  subst hy;have hc:=h4.cell 0 (by simp);obtain rfl:ao=some ⟨b,o,none⟩:=by
   rcases h4.loc with e | e
   ·simp at e
   ·exact e
  rw[bW,Nat.add_zero] at hc;clear hv aa h4 h3;go_enter Tryz.func110,Tryz.ntmps110;go_wp2_with fail;refine t.mono ?_
  rintro e w' ⟨rfl,rfl⟩;go_wp2;go_ret2;exact⟨rfl,Below.refl _ _⟩
theorem FZ(i:Nat)(h:i < 100):∀ j v,[Value.int .u8 (48 + (i:Int) / 10),Value.int .u8 (48 + (i:Int) % 10)][j]? = some v->∀ (w:World) (gp:Nat),eh w gp 183 (dx 100)->w.cell? ((⟨gp,i * 2,none⟩:Addr).add j)=some v:=by
 intro j v a w gp R;have c:=cQ 100;obtain⟨b,p1⟩:=Bf h
 match j,a with
 | 0,a =>
  simp at a; subst a;have:=R.cell (i:=2 * i) (by omega);rw[b] at this;rw[<- this];exact congrArg w.cell? (by simp[Addr.add,Nat.mul_comm])
 | 1,a =>
  simp at a; subst a;have:=R.cell (i:=2 * i + 1) (by omega);rw[p1] at this;rw[<- this];exact congrArg w.cell? (by simp[Addr.add,Nat.mul_comm])
 | j + 2,a=>simp at a
theorem GW(g E:Nat)(h:E<=34)(W:World):(Instr.sliceAt 181 (.pointer (some ⟨g,0,none⟩)) (some (.int .i64 (E:Int))) none none).run Tryz.prog W=.ok (.slice (some ⟨g,E,none⟩) (36 - E) (36 - E)) W:=by
 have a:Tryz.prog.arrayLen 181=36:=by kernel_rfl
 have b:Tryz.prog.elem 181=5:=by kernel_rfl
 have hu:Tryz.prog.underlying 181=some (.array (Tryz.prog.arrayLen 181) (Tryz.prog.elem 181)):=by kernel_rfl
 have hs:(sizeOf 5).run Tryz.prog W=.ok 1 W:=by kernel_rfl
 rw[run_sliceAt_array_l W 181 ⟨g,0,none⟩ hu .i64 (E:Int) (by omega) (by rw[a]; omega),b,hs,a];simp only[Result.andThen,slicedAt,Int.toNat_natCast,Nat.mul_one];rw[if_neg (by omega)];congr 3
 unfold Addr.add;split<;>simp_all
theorem slice2(g o:Nat)(W:World):(Instr.sliceAt 182 (.pointer (some ⟨g,o,none⟩)) none none none).run Tryz.prog W=.ok (.slice (some ⟨g,o,none⟩) 2 2) W:=by
 have b:Tryz.prog.arrayLen 182=2:=by kernel_rfl
 have a:Tryz.prog.elem 182=5:=by kernel_rfl
 have hu:Tryz.prog.underlying 182=some (.array (Tryz.prog.arrayLen 182) (Tryz.prog.elem 182)):=by kernel_rfl
 have hs:(sizeOf 5).run Tryz.prog W=.ok 1 W:=by kernel_rfl
 rw[run_sliceAt_array_all W 182 ⟨g,o,none⟩ hu,a,hs,b];simp[Result.andThen,slicedAt,Addr.add]
theorem Fw:(Tryz.prog.info? 5).map (·.size)=some 1:=by kernel_rfl
theorem wQ{en k:Nat}(b:l.length=36)(he:en<=36)(a:2 * k + 2<=en) :
  splice ((l.take (en - 2 * k) ++ dU (2 * k) X ++ l.drop en).map (Value.int .u8)) (en - 2 * k - 2) [Value.int .u8 (48 + (((X / 100 ^ k % 100:Nat):Nat):Int) / 10),Value.int .u8 (48 + (((X / 100 ^ k % 100:Nat):Nat):Int) % 10)]
   = (l.take (en - 2 * (k + 1)) ++ dU (2 * (k + 1)) X ++ l.drop en).map (Value.int .u8):=by
 have hX:(0:Int)<=(X:Int):=by omega
 have e1:dU (2 * (k + 1)) (X:Int)=[48 + (((X / 100 ^ k % 100:Nat):Nat):Int) / 10,48 + (((X / 100 ^ k % 100:Nat):Nat):Int) % 10] ++ dU (2 * k) X:=by
  rw[show 2 * (k + 1)=2 + 2 * k by omega,pD 2 (2 * k) _ hX];congr 1
  rw[show (2:Nat)=0 + 2 from rfl,Db]
  have e2:(X:Int) / 10 ^ (2 * k)=((X / 100 ^ k:Nat):Int):=by
   rw[Int.natCast_ediv];congr 1
   rw[Int.pow_mul];simp
  rw[e2];simp[dU]
 rw[e1]
 have hA:(l.take (en - 2 * k)).length=en - 2 * k:=by simp; omega
 unfold splice;simp only[List.map_append,List.append_assoc,List.map_cons,List.length_cons,List.length_nil,List.cons_append,List.nil_append];rw[List.take_append_of_le_length (by simp; omega),List.drop_append,List.drop_of_length_le (by simp; omega)];rw[<- List.map_take,List.take_take,Nat.min_eq_left (by omega),show en - 2 * k - 2=en - 2 * (k + 1) by omega];rw[List.length_map,hA,show en - 2 * (k + 1) + (0 + 1 + 1) - (en - 2 * k)=0 by omega];simp
theorem qn{P:Program}{o:Oper}{a:Act}{Q:Exit->Act->World->Prop}{E:Prop}(i:o.guard=none)(d s:Operand)(l sT:TypeId)(q:o.op=.call { callee:=.builtin .copy,args:=#[d,s],argTypes:=#[l,sT] })(elem:TypeId)(hu:P.underlying l=some (.slice elem))(k:(P.info? elem).map (·.size)=some 1)(g off dLen dCap:Nat)(ad:Addr)(sLen sCap:Nat)(p:a.eval d=.slice (some ⟨g,off,none⟩) dLen dCap)(hs:a.eval s=.slice (some ad) sLen sCap)(cur:List Value)(t:TypeId)(n:w.heap[g]? = some (.cells cur.toArray t (0,0)))(cs:List Value)(hn:cs.length=Nat.min sLen dLen)(e:∀ j v,cs[j]? = some v->w.cell? (ad.add j)=some v)(f:off + cs.length<=cur.length)(m:∀ v∈cs,v.oneCell'=true)(h:∀ w',Hid (w'.heap[g]? = some (.cells (splice cur off cs).toArray t (0,0)))->Hid (∀ b,b≠g->w'.heap[b]? = w.heap[b]?)->Hid (∀ B w0,B<=g->Below B w0 w->Below B w0 w')->K (a.put o.dst (goInt cs.length)) w') :
  if Region.wanted o (yielded ops a.tmps)=true then Oper.wp P o a w K Q else E:=by
 have hw:Region.wanted o (yielded ops a.tmps)=true:=by simp[Region.wanted,i]
 rw[if_pos hw];have c:=run_copy_row (P:=P) w l sT o.type elem g off dLen dCap ad sLen sCap cur.toArray t cs hu k n hn e (by simpa using f) m;unfold Oper.wp;simp[execOp,q,resolve,invoke,builtin,p,hs,c,Result.andThen];exact h _ (show _=_ by simpa[splice] using setRow_heap w g _ _ t _ n) (fun b hb=>setRow_other w g b _ hb) (fun B w0 m r=>below_setRow r m _)
theorem Em{gt gp:Nat}(en:Nat)(h:bQ w ao n c (X:Int))(hn:n<=1099511627776)(hx:X < 1000000000000000000)(T:eh w gt 181 l)(hl:l.length=36)(hen:18<=en)(hen2:en<=36)(Tb:eh w gp 183 (dx 100))(hne:gt≠gp) :
  Calls Tryz.prog 109 #[.int .i64 en,.slice ao n c,.pointer (some ⟨gt,0,none⟩),.pointer (some ⟨gp,0,none⟩)] w fun e w'=>e=.returned (.tuple #[])/\eh w' gt 181 (l.take (en - 18) ++ dU 18 X ++ l.drop en)/\(∀ B w0,B<=gt->Below B w0 w->Below B w0 w')/\(∀ b,b < w.heap.size->b≠gt->w'.heap[b]? = w.heap[b]?):=by
 go_enter Tryz.func109,Tryz.ntmps109;go_wp2_with fail;refine(nSmall h hn (by omega)).mono ?_
 rintro e w1 ⟨rfl,hB⟩;have hlt:=T.lt;have T:=T.keep hB;have Tb:=Tb.keep hB
 have HK:Hid (∀ b,b < w.heap.size->b≠gt->w1.heap[b]? = w.heap[b]?):=fun b hb _=>hB.block b hb
 have aa:Hid (∀ B w0,B<=gt->Below B w0 w->Below B w0 w1):=fun B w0 h1 h2=>h2.trans (hB.mono (by omega))
 clear h hB;go_wp2;go_loopw [0,6,13] (fun te tx tk wr=>∃ k:Nat,k<=9/\tk=.int .i64 k/\te=.int .i64 ((en - 2 * k:Nat):Int)/\tx=.int .u64 ((X / 100 ^ k:Nat):Int)/\eh wr gt 181 (l.take (en - 2 * k) ++ dU (2 * k) X ++ l.drop en)/\eh wr gp 183 (dx 100)/\(∀ B w0,B<=gt->Below B w0 w->Below B w0 wr)/\(∀ b,b < w.heap.size->b≠gt->wr.heap[b]? = w.heap[b]?)) (fun _ _ tk _=>9 - (intOf tk).toNat)
 case atStart=>exact⟨0,by omega,rfl,rfl,by simp,by simpa[dU] using T,Tb,aa.out,HK.out⟩
 case round =>
  clear T Tb HK aa;obtain⟨k,hk,rfl,rfl,rfl,T,Tb,aa,HK⟩:=hrel;by_cases hlt9:k < 9
  ·have hs:=wQ (X:=X) hl hen2 (show 2 * k + 2<=en by omega);have HS:=(show Hid _ from hs)
   have hlen:(l.take (en - 2 * k) ++ dU (2 * k) X ++ l.drop en).length=36:=by simp[eA]; omega
   have aa:=(show Hid _ from aa)
   have HK:=(show Hid _ from HK)
   have hdiv:X / 100 ^ k / 100=X / 100 ^ (k + 1):=by rw[Nat.div_div_eq_div_mul,Nat.pow_succ]
   have HD:=(show Hid _ from hdiv)
   have hYb:X / 100 ^ k < 1000000000000000000:=Nat.lt_of_le_of_lt (Nat.div_le_self _ _) hx;clear hs hdiv;generalize X / 100 ^ k=Y at *
   have hi:Y % 100 < 100:=Nat.mod_lt _ (by decide)
   have htm:(Y:Int).tmod 100=((Y % 100:Nat):Int):=by rw[Int.tmod_eq_emod_of_nonneg (by omega)]; omega
   generalize Y % 100=i at *
   have hi0:(i:Int) < 100:=by omega
   have hpa:=fun j v (hj:[Value.int .u8 (48 + (i:Int) / 10),Value.int .u8 (48 + (i:Int) % 10)][j]? = some v)=>FZ i hi j v hj
   have HPA:=(show Hid _ from hpa)
   clear hpa;obtain⟨E,hE⟩:∃ E,en - 2 * k=E + 2:=⟨en - 2 * k - 2,by omega⟩
   have hE36:E + 2<=36:=by omega
   have HE:=(show Hid _ from hE)
   rw[hE];clear hE;have hs36:=GW gt E (by omega);have hs2:=slice2 gp (i * 2);go_wp2_with fail;go_region_law (refine qn rfl (.tmp 18) (.tmp 22) 96 96 rfl 5 cA Fw gt E (36 - E) (36 - E) ⟨gp,i * 2,none⟩ 2 2 (by rfl) (by rfl) _ 181 T.drew.blk [Value.int .u8 (48 + (i:Int) / 10),Value.int .u8 (48 + (i:Int) % 10)] (by show 2=Nat.min 2 (36 - E); exact(Nat.min_eq_left (by omega)).symm) (fun j v hj=>HPA.out j v hj _ gp Tb.drew) (by rw[List.length_map,hlen]; show E + 2<=36; omega) (by simp[Value.oneCell']) ?_; intro w4 hg4 ho4 hb4)
   have T4:eh w4 gt 181 (l.take (en - 2 * (k + 1)) ++ dU (2 * (k + 1)) X ++ l.drop en):=⟨by
    rw[<- HS.out,show en - 2 * k - 2=E by have:=HE.out; omega]; exact hg4.out⟩
   have Tb4:eh w4 gp 183 (dx 100):=⟨by rw[ho4.out gp (fun e=>hne e.symm)]; exact Tb.blk⟩
   have HT4:=(show Hid _ from T4)
   have HTb4:=(show Hid _ from Tb4)
   have htd:(Y:Int).tdiv 100=((Y / 100:Nat):Int):=by rw[Int.tdiv_eq_ediv_of_nonneg (by omega)]; omega
   have hY2b:Y / 100 < 1000000000000000000:=Nat.lt_of_le_of_lt (Nat.div_le_self _ _) hYb;generalize hY2:Y / 100=Y2 at *;have HY2:=(show Hid _ from hY2)
   clear hY2 T4 Tb4 T Tb hg4;go_wp2;go_roundw
   case rel=>exact⟨k + 1,by omega,by go_num,by rw[show en - 2 * (k + 1)=E by have:=HE.out; omega],by rw[<- HD.out],HT4.out,HTb4.out,fun B w0 h1 h2=>hb4.out B w0 h1 (aa.out B w0 h1 h2).drew,fun b h1 h2=>(ho4.out b h2).trans (HK.out b h1 h2)⟩
   case measure=>simp[intOf]; omega
  ·have hk9:k=9:=by omega
   subst hk9;have aa:=(show Hid _ from aa)
   have HK:=(show Hid _ from HK)
   go_wp2;go_end0;exact⟨rfl,T,aa.out,HK.out⟩
theorem bQ.over{t:TypeId}(h:bQ w ao n c x)(T:eh w g t l)(k:∀ b,b < w.heap.size->b≠g->w'.heap[b]? = w.heap[b]?):bQ w' ao n c x:=by
 obtain⟨b,o,m,q,j,p,f⟩:=h.ex;refine⟨b,o,m,q,j,p,f.loc,fun i hi => ?_⟩;have hc:=f.cell i hi;have hb:=aK hc
 have a:b≠g:=by
  intro e;subst e;have d:=T.blk;simp only[World.cell?,d] at hc;simp at hc
 rw[World.cell?_of_block (w:=w) (k b hb a)];exact hc
theorem eh.over{g':Nat}{t:TypeId}(h:eh w g' t l)(hne:g'≠g)(HK:∀ b,b < w.heap.size->b≠g->w'.heap[b]? = w.heap[b]?):eh w' g' t l:=⟨by rw[HK g' h.lt hne]; exact h.blk⟩
theorem xP(g:Nat)(W:World):(Instr.sliceAt 181 (.pointer (some ⟨g,0,none⟩)) none none none).run Tryz.prog W=.ok (.slice (some ⟨g,0,none⟩) 36 36) W:=by
 have b:Tryz.prog.arrayLen 181=36:=by kernel_rfl
 have a:Tryz.prog.elem 181=5:=by kernel_rfl
 have hu:Tryz.prog.underlying 181=some (.array (Tryz.prog.arrayLen 181) (Tryz.prog.elem 181)):=by kernel_rfl
 have hs:(sizeOf 5).run Tryz.prog W=.ok 1 W:=by kernel_rfl
 rw[run_sliceAt_array_all W 181 ⟨g,0,none⟩ hu,a,hs,b];simp[Result.andThen,slicedAt,Addr.add]
theorem vr{t:TypeId}(R:eh w g t d)(h:d.length=36)(i:gV d):∃ S:ByteArray,(convert 96 9 (.slice (some ⟨g,0,none⟩) 36 36)).run Tryz.prog w=Result.ok (.string S) w/\S.data.toList.map (fun c=>(c.toNat:Int))=d:=by
 have a:=run_loadCells_list (P:=Tryz.prog) w ⟨g,0,none⟩ (d.map (Value.int .u8)) (fun j u hu=>by
  rw[List.getElem?_map] at hu
  have e:j < d.length:=by
   rcases Nat.lt_or_ge j d.length with e | e
   ·exact e
   ·rw[List.getElem?_eq_none e] at hu; simp at hu
  rw[List.getElem?_eq_getElem e] at hu;simp at hu;subst hu;have:=R.cell e;rw[bT e] at this;rw[<- this];by_cases f:j=0
  ·subst f; exact congrArg w.cell? (by simp[Addr.add])
  ·exact congrArg w.cell? (by simp[Addr.add,f]))
 rw[List.length_map,h] at a;have b:=(run_convert_bytes_string (P:=Tryz.prog) w 96 9 5 (some ⟨g,0,none⟩) 36 36 cA uD iK).trans (run_bytesToString w ⟨g,0,none⟩ 36 36 d a);refine⟨_,b,?_⟩;rw[re d ByteArray.empty];simp only[show ByteArray.empty.data.toList=[] from rfl,List.nil_append,List.map_map]
 conv=>rhs; rw[<- List.map_id d]
 apply List.map_congr_left;intro c hc;have:=i c hc;simp[Function.comp,UInt8.toNat_ofNat'];omega
theorem Fq(h : aN w ao n c x)(hn : n ≤ 274877906944)(hx : x < U36) :
    Calls Tryz.prog 69 #[.agg #[.slice ao n c]] w fun e w' => ∃ S : ByteArray, e = .returned (.string S) ∧ S.data.toList.map (fun c => (c.toNat : Int)) = dU 36 x ∧ Below w.heap.size w w' := by
  have B0 := kM w (.cells #[.slice ao n c] 32) (.cells ((List.replicate 36 (0 : Int)).map (Value.int .u8)).toArray 181);have R0 := pK (w.alloc (.cells #[.slice ao n c] 32)) 181 (List.replicate 36 0);rw[show (w.alloc (.cells #[.slice ao n c] 32)).heap.size = w.heap.size + 1 by simp] at R0;have P0 := (cM w (.slice ao n c) 32).alloc (.cells ((List.replicate 36 (0 : Int)).map (Value.int .u8)).toArray 181);have h := h.keep B0;go_enter Tryz.func69, Tryz.ntmps69;go_wp2_with fail;change Calls _ _ _ ((w.alloc (.cells #[.slice ao n c] 32)).alloc (.cells ((List.replicate 36 (0 : Int)).map (Value.int .u8)).toArray 181)) _
  refine dPairs.mono ?_
  rintro e w1 ⟨rfl, hB⟩;have R0 := R0.keep hB;have P0 := P0.keep hB;have h := h.keep hB;have B0 := ai B0 hB;have hlt := R0.lt;clear hB
  have hnew : (w1.alloc (.cells Tryz.zeroCells183 183)).heap[w1.heap.size]? = some (.cells Tryz.zeroCells183 183 (0, 0)) := heap_alloc_new w1 _
  have hz0 : Tryz.zeroCells183.size = 200 := by kernel_rfl
  have hsz : ((dx 100).map (Value.int .u8)).toArray.size = 200 := by simp[cQ]
  have BA := ae w1 (.cells Tryz.zeroCells183 183)
  have Tb : eh ((w1.alloc (.cells Tryz.zeroCells183 183)).setRow w1.heap.size ((dx 100).map (Value.int .u8)).toArray) w1.heap.size 183 (dx 100) := ⟨setRow_heap _ _ _ _ _ _ hnew⟩
  have BS : Below w1.heap.size w1 ((w1.alloc (.cells Tryz.zeroCells183 183)).setRow w1.heap.size ((dx 100).map (Value.int .u8)).toArray) := below_setRow BA (Nat.le_refl _) _;have R0 := R0.keep BS;have P0 := P0.keep BS;have h := h.keep BS;have B0 := ai B0 BS;have HN := (show Hid _ from hnew);have HZ := (show Hid _ from hz0);have HSZ := (show Hid _ from hsz);have HBS := (show Hid _ from BS.size);clear hnew hz0 hsz BA BS;generalize hW2 : (w1.alloc (.cells Tryz.zeroCells183 183)).setRow w1.heap.size ((dx 100).map (Value.int .u8)).toArray = w2 at *;have HW2 := (show Hid _ from hW2);clear hW2;go_wp2_with (refine wpList_store_row rfl 183 (.tmp 4) (.tmp 9) rfl w1.heap.size _ rfl rfl 183 _ HN.out (by rw[HSZ.out]; kernel_rfl) (by rw[HSZ.out, HZ.out]) (by simp[Value.oneCell']) ?_; rw[HW2.out]);obtain⟨X, hX⟩ : ∃ X : Nat, x = (X : Int) := ⟨x.toNat, by have := h.mT; omega⟩;subst hX
  have hX36 : X < 1000000000000000000000000000000000000 := by have : U36 = 1000000000000000000000000000000000000 := by decide
                                                              omega
  have HXS := (show Hid _ from pD 18 18 (X : Int) (by omega));have q0 := P0.cell;go_region_held3 (fun w' => w'.cell? ⟨w.heap.size, 0, none⟩ = some (.slice ao n c)) (first | exact(by assumption) | go_keep)
    (first
    | (go_at_call 111; refine(EF 18 (by decide)).mono ?_; rintro e w3 ⟨a3, k3, d3, rfl, hO, hk3, hB⟩; have R0 := R0.drew.keep hB; have Tb := Tb.drew.keep hB; have P0 := P0.drew.keep hB; have q0 := P0.cell; have h := h.drew.keep hB; have B0 := ai B0.drew hB; clear hB)
    | (go_at_call 70; refine(nDiv h hO.a (by omega) (by omega) (by decide)).mono ?_; rintro e w4 ⟨a4, k4, d4, a5, k5, d5, rfl, hO4, hO5, hk4, hk5, hB⟩; have R0 := R0.keep hB; have Tb := Tb.keep hB; have P0 := P0.keep hB; have q0 := P0.cell; have B0 := ai B0 hB; clear hB h hO))
  all_goals (
    have hO4 := hO4.eqv (show (X : Int) / 10 ^ 18 = ((X / 1000000000000000000 : Nat) : Int) from by omega);have hO5 := hO5.eqv (show (X : Int) % 10 ^ 18 = ((X % 1000000000000000000 : Nat) : Int) from by omega)
    have hb1 : X / 1000000000000000000 < 1000000000000000000 := by omega
    have hb2 : X % 1000000000000000000 < 1000000000000000000 := by omega
    have HE1 : Hid ((X : Int) / 10 ^ 18 = ((X / 1000000000000000000 : Nat) : Int)) := by show _ = _; omega
    have HE2 : Hid (dU 18 (X : Int) = dU 18 ((X % 1000000000000000000 : Nat) : Int)) := by
      show _ = _
      apply rS (oH (by omega)) (oH (by omega)) (by simp[eA]);rw[uM (by omega), uM (by omega)];omega
    generalize X / 1000000000000000000 = X1 at *;generalize X % 1000000000000000000 = X2 at *
    have hgne : w.heap.size + 1 ≠ w1.heap.size := by omega
    have tW1 := Em 18 hO4 (by omega) hb1 R0 (by simp) (by decide) (by decide) Tb hgne;go_wp2_with fail;refine tW1.mono ?_
    rintro e w5 ⟨rfl, T5, HB5, HK5⟩;have hO5 := hO5.over R0 HK5;have Tb := Tb.over (fun e => hgne e.symm) HK5;have B5 := HB5 w.heap.size w (by omega) B0;clear tW1 R0 P0 q0 HB5 HK5 hO4 B0;have tW2 := Em 36 hO5 (by omega) hb2 T5 (by simp[eA]) (by decide) (by decide) Tb hgne;go_wp2_with fail;refine tW2.mono ?_
    rintro e w6 ⟨rfl, T6, HB6, HK6⟩;have B6 := HB6 w.heap.size w (by omega) B5
    clear tW2 hO5 Tb HB6 HK6 T5 B5)
  all_goals (
    have hL : (List.take (36 - 18) (List.take (18 - 18) (List.replicate 36 (0 : Int)) ++ dU 18 (X1 : Int) ++ List.drop 18 (List.replicate 36 0)) ++ dU 18 (X2 : Int) ++ List.drop 36 (List.take (18 - 18) (List.replicate 36 (0 : Int)) ++ dU 18 (X1 : Int) ++ List.drop 18 (List.replicate 36 0))) = dU 36 (X : Int) := by
      rw[HXS.out, HE1.out, HE2.out]
      have l1 : (dU 18 (X1 : Int)).length = 18 := eA _ _;rw[List.take_append_of_le_length (by simp[l1]), List.drop_of_length_le (l := List.take (18 - 18) (List.replicate 36 (0 : Int)) ++ dU 18 (X1 : Int) ++ List.drop 18 (List.replicate 36 0)) (by simp[l1])];rw[show List.take (18 - 18) (List.replicate 36 (0 : Int)) = [] from rfl, List.nil_append, List.take_of_length_le (by omega), List.append_nil]
    rw[hL] at T6;obtain⟨S, hS1, hS2⟩:= vr T6 (eA 36 _) (oH (by omega));have hs36 := xP (w.heap.size + 1) w6;clear hL T6;go_wp2;go_ret
    exact⟨S, rfl, hS2, B6⟩)
end
end Go.Proofs.YthfepflplbahkaaGreatDoor
namespace Go.Proofs.YthfepflplbahkaaGreatDoor
open Go.RowKit Lim
section
variable {w:World}{ao al ao' ad:Option Addr}{n c g n' c' nd cd:Nat}{x z y:Int}{up:Bool}{v:Value}
theorem qN(up:Bool) :
  Calls Tryz.prog 63 #[.bool up] w fun e w'=>∃ g,e=.returned (.func (.func 94) #[] #[.pointer (some ⟨g,0,none⟩)])/\Slot w' g (.bool up) 4/\Below w.heap.size w w':=by
 go_enter Tryz.func63,Tryz.ntmps63;go_wp2;go_ret;exact⟨_,rfl,cM w _ _,ae _ _⟩
theorem dRound{nl cl:Nat}{t:TypeId}(h:bQ w ao n c x)(hl:bQ w al nl cl z)(S:Slot w g (.bool up) t)(hn:n<=1099511627776)(hnl:nl<=1099511627776) :
  Calls Tryz.prog 94 #[.slice ao n c,.slice al nl cl,.pointer (some ⟨g,0,none⟩)] w fun e w'=>∃ a k d,e=.returned (.agg #[.slice a k d])/\bQ w' a k d (if up=true/\z≠0 then x + 1 else x)/\k<=n + 2/\Below w.heap.size w w':=by
 have hz:=hl.Bq;have hOrig:=h;have B0:=ae w (.cells #[.slice none 0 0] 32);have S0:=cM w (.slice none 0 0) 32;have h:=h.keep B0;have S:=S.keep B0;have cS:=S.cell;clear hl S;by_cases hc:up=true/\z≠0
 ·rw[if_pos hc];obtain⟨rfl,aa⟩:=hc
  have hp:0 < nl:=by
   rcases Nat.eq_zero_or_pos nl with e | e
   ·exact absurd (hz.1 e) aa
   ·exact e
  obtain⟨m,rfl⟩:∃ m,nl=m + 1:=⟨nl - 1,by omega⟩
  clear hz aa hp;go_enter Tryz.func94,Tryz.ntmps94;go_wp2_with fail;refine(nOf (by decide) (by decide)).mono ?_
  rintro e w1 ⟨a,k,d,rfl,hO,hk,hB⟩;have S0:=S0.keep hB;have B0:=ai B0 hB;have h:=h.keep hB;clear hB cS;go_wp2_with fail;refine(nAdd h.a hO.a hn (by omega)).mono ?_
  rintro e w2 ⟨a',k',d',rfl,hO',hk',hB⟩;have S1:=S0.keep hB;have c1:=S1.cell;have f1:=S1.free;have S2:=S1.put (.slice a' k' d');have ab:=hO'.put S1 eQ (.slice a' k' d');have HB:=eK B0 hB (g:=w.heap.size) (Nat.le_refl _) (.slice a' k' d');clear h hO hO' hB S0 S1 B0;go_wp2;refine bodyPost_ret (eU rfl rfl S2) rfl ?_
  exact⟨a',k',d',rfl,ab,by omega,HB⟩
 ·rw[if_neg hc];have c1:=S0.cell;have f1:=S0.free;have S2:=cM w (.slice ao n c) 32;have HB:=ae w (.cells #[.slice ao n c] 32);have ab:=hOrig.keep HB
  cases up with
  | false =>
   clear h S0 B0 hz hc;go_enter Tryz.func94,Tryz.ntmps94;go_wp2;refine bodyPost_ret (eU rfl rfl S2) rfl ?_
   exact⟨ao,n,c,rfl,ab,by omega,HB⟩
  | true =>
   have aa:z=0:=Decidable.byContradiction fun e=>hc ⟨rfl,e⟩
   have hnl0:=hz.2 aa;subst hnl0;clear h S0 B0 hz hc aa;go_enter Tryz.func94,Tryz.ntmps94;go_wp2;refine bodyPost_ret (eU rfl rfl S2) rfl ?_
   exact⟨ao,n,c,rfl,ab,by omega,HB⟩
def rnd(up:Bool)(m z:Int):Int:=if up=true/\m % z≠0 then m / z + 1 else m / z
theorem py(m z:Int):rnd false m z=m / z:=by simp[rnd]
theorem zx{t:TypeId}(h:aN w ao n c x)(h':aN w ao' n' c' y)(hd:aN w ad nd cd z)(S:Slot w g (.bool up) t)(hn:n<=274877906944)(hn':n'<=274877906944)(hnd:nd<=274877906944)(hne:z≠0) :
  Calls Tryz.prog 62 #[.slice ao n c,.slice ao' n' c',.slice ad nd cd,.func (.func 94) #[] #[.pointer (some ⟨g,0,none⟩)]] w fun e w'=>∃ a k d,e=.returned (.tuple #[.agg #[.slice a k d],.int .i64 0])/\bQ w' a k d (rnd up (x * y) z)/\k<=n + n' + 2/\Below w.heap.size w w':=by
 have B0:=ae w (.cells #[.slice none 0 0] 32);have S0:=cM w (.slice none 0 0) 32;have h:=h.keep B0
 have h':=h'.keep B0;have hd:=hd.keep B0;have S:=S.keep B0;go_enter Tryz.func62,Tryz.ntmps62;go_wp2_with fail;refine(ET h h' hd hn hn' hnd hne).mono ?_
 rintro e w1 ⟨a1,k1,d1,a2,k2,d2,rfl,hO1,hO2,hk1,hk2,hB⟩;have S0:=S0.keep hB;have S:=S.keep hB;have B0:=ai B0 hB;clear hB h h' hd hne;go_wp2_with fail;refine(dRound hO1 hO2 S (by omega) (by omega)).mono ?_
 rintro e w2 ⟨a',k',d',rfl,hO',hk',hB⟩;have S1:=S0.keep hB;have c1:=S1.cell;have f1:=S1.free;have S2:=S1.put (.slice a' k' d');have hOz:=hO'.put S1 eQ (.slice a' k' d');have HB:=eK B0 hB (g:=w.heap.size) (Nat.le_refl _) (.slice a' k' d');clear hO1 hO2 hO' hB S0 S1 B0 S;go_wp2;refine bodyPost_ret (ik rfl rfl rfl S2) rfl ?_
 exact⟨a',k',d',rfl,hOz,by omega,HB⟩
theorem Io(h:aN w ao n c x)(h':aN w ao' n' c' y)(hd:aN w ad nd cd z)(hn:n<=274877906944)(hn':n'<=274877906944)(hnd:nd<=274877906944)(hz:z=0) :
  Calls Tryz.prog 62 #[.slice ao n c,.slice ao' n' c',.slice ad nd cd,v] w fun e w'=>e=.returned (.tuple #[.agg #[.slice none 0 0],.int .i64 21])/\Below w.heap.size w w':=by
 have B0:=ae w (.cells #[.slice none 0 0] 32);have S0:=cM w (.slice none 0 0) 32;have h:=h.keep B0
 have h':=h'.keep B0;have hd:=hd.keep B0;go_enter Tryz.func62,Tryz.ntmps62;go_wp2_with fail;refine(nA h h' hd hn hn' hnd hz).mono ?_
 rintro e w1 ⟨rfl,hB⟩;have S1:=S0.keep hB;have c1:=S1.cell;have f1:=S1.free;have S2:=S1.put (.slice none 0 0);have HB:=eK B0 hB (g:=w.heap.size) (Nat.le_refl _) (.slice none 0 0);clear h h' hd hz hB S0 S1 B0;go_wp2;refine bodyPost_ret (ik rfl rfl rfl S2) rfl ?_
 exact⟨rfl,HB⟩
end
end Go.Proofs.YthfepflplbahkaaGreatDoor
namespace Go.Proofs.YthfepflplbahkaaGreatDoor
open Go.RowKit Lim
section
variable {c:Code}{K:Act->World->Prop}{a:Act}{w:World}{T:Nat->Option Addr->Nat->Nat->Option Addr->Nat->Nat->Option Addr->Nat->Nat->Option Addr->Nat->Nat->Act}{ao:Option Addr}{n:Nat}{x:Int}{f:FuncId}{args:Array Value}{Q:Ending->World->Prop}{ops:Array Oper}
theorem Cb{P:Program}{d:Exit->Act->World->Prop}(R:Act->World->Prop)(f:Code.wp P c (Exit.then R (fun _ _ _=>False)) a w)(b:∀ a' w',R a' w'->K a' w'):Code.wp P c (Exit.then K d) a w :=
 Code.wp_mono (fun e a' w' h=>by cases e<;>first | exact b _ _ h | exact h.elim) f
theorem mid3{P:Program}{d:Exit->Act->World->Prop}{T:Nat->Option Addr->Nat->Nat->Option Addr->Nat->Nat->Option Addr->Nat->Nat->Act}(F:Nat->Option Addr->Nat->Nat->World->Prop)(f:Code.wp P c (Exit.then (fun a' w'=>∃ g a1 k1 d1 a2 k2 d2 a3 k3 d3,a'=T g a1 k1 d1 a2 k2 d2 a3 k3 d3/\F g a3 k3 d3 w') (fun _ _ _=>False)) a w)(b:∀ g a1 k1 d1 a2 k2 d2 a3 k3 d3 w',F g a3 k3 d3 w'->K (T g a1 k1 d1 a2 k2 d2 a3 k3 d3) w'):Code.wp P c (Exit.then K d) a w :=
 Cb _ f fun _ w' ⟨g,a1,k1,d1,a2,k2,d2,a3,k3,d3,e,hF⟩=>e▸b g a1 k1 d1 a2 k2 d2 a3 k3 d3 w' hF
theorem mid4{P:Program}{d:Exit->Act->World->Prop}(F:Nat->Option Addr->Nat->Nat->Option Addr->Nat->Nat->Option Addr->Nat->Nat->Option Addr->Nat->Nat->World->Prop)(f:Code.wp P c (Exit.then (fun a' w'=>∃ g a1 k1 d1 a2 k2 d2 a3 k3 d3 a4 k4 d4,a'=T g a1 k1 d1 a2 k2 d2 a3 k3 d3 a4 k4 d4/\F g a1 k1 d1 a2 k2 d2 a3 k3 d3 a4 k4 d4 w') (fun _ _ _=>False)) a w)(b:∀ g a1 k1 d1 a2 k2 d2 a3 k3 d3 a4 k4 d4 w',F g a1 k1 d1 a2 k2 d2 a3 k3 d3 a4 k4 d4 w'->K (T g a1 k1 d1 a2 k2 d2 a3 k3 d3 a4 k4 d4) w'):Code.wp P c (Exit.then K d) a w :=
 Cb _ f fun _ w' ⟨g,a1,k1,d1,a2,k2,d2,a3,k3,d3,a4,k4,d4,e,hF⟩=>e▸b g a1 k1 d1 a2 k2 d2 a3 k3 d3 a4 k4 d4 w' hF
theorem Ee{c:Nat}(_h:aN w ao n c x)(v:Value)(t:TypeId):Slot (w.alloc (.cells #[v] t)) w.heap.size v t:=cM w v t
theorem atW{P:Program}{c:Nat}(_h:aN w ao n c x)(h:Calls P f args w Q):Calls P f args w Q:=h
theorem FC:∃ _n:Nat,True:=⟨0,trivial⟩
theorem BP:∃ _a:Option Addr,True:=⟨none,trivial⟩
theorem step_call{P:Program}{o:Oper}{Q:Exit->Act->World->Prop}{E:Prop}(hw:Region.wanted o (yielded ops a.tmps)=true)(b:(execOp a.eval o).run P w=.ok (.enter f args) w)(hc:Calls P f args w fun
   | .returned v,w''=>K (a.put o.dst v) w''
   | .panicked chain,w''=>Q (.panic chain) a w''
   | .outgrown,_=>LetsOut Q) :
  if Region.wanted o (yielded ops a.tmps)=true then Oper.wp P o a w K Q else E:=by
 rw[if_pos hw];unfold Oper.wp;rw[b];exact hc
end
end Go.Proofs.YthfepflplbahkaaGreatDoor
namespace Go.Proofs.YthfepflplbahkaaGreatDoor
open Go.RowKit Lim
section
variable {w:World}{ao0 ao1:Option Addr}
theorem dMul{n0 c0:Nat}{x0:Int}{n1 c1:Nat}{x1:Int}(h0 : aN w ao0 n0 c0 x0)(hn0 : n0 ≤ 274877906944)(h1 : aN w ao1 n1 c1 x1)(hn1 : n1 ≤ 274877906944)  :
    Calls Tryz.prog 51 #[.agg #[.slice ao0 n0 c0], .agg #[.slice ao1 n1 c1]] w fun e w' => ∃ a k d, e = .returned (.agg #[.slice a k d]) ∧ bQ w' a k d (x0 * x1 / U36) ∧ k ≤ n0 + n1 + 2 ∧ Below w.heap.size w w' := by
  have B0 := fJ w (.cells #[.slice ao0 n0 c0] 32) (.cells #[.slice ao1 n1 c1] 32) (.cells #[.slice none 0 0] 32);have S0 := gT w (.cells #[.slice ao0 n0 c0] 32) (.cells #[.slice ao1 n1 c1] 32) (.slice none 0 0) 32;have P0 := ((cM w (.slice ao0 n0 c0) 32).alloc (.cells #[.slice ao1 n1 c1] 32)).alloc (.cells #[.slice none 0 0] 32);have q0 := P0.cell;have h0 := h0.keep B0;have P1 := (gW w (.cells #[.slice ao0 n0 c0] 32) (.slice ao1 n1 c1) 32).alloc (.cells #[.slice none 0 0] 32);have q1 := P1.cell;have h1 := h1.keep B0;go_enter Tryz.func51, Tryz.ntmps51;go_wp2_with fail;generalize ((w.alloc (.cells #[.slice ao0 n0 c0] 32)).alloc (.cells #[.slice ao1 n1 c1] 32)).alloc (.cells #[.slice none 0 0] 32) = W at *;apply mid3 (F := fun g a k d w' => Slot w' g (.slice a k d) 32 ∧ Slot w' (w.heap.size + 1 + 1) (.slice none 0 0) 32 ∧ w.heap.size + 1 + 1 < g ∧ bQ w' a k d (x0 * x1 / U36) ∧ k ≤ n0 + n1 + 2 ∧ Below w.heap.size w w')
  case h1 =>
    go_region_held3 (fun w' => w'.cell? ⟨w.heap.size, 0, none⟩ = some (.slice ao0 n0 c0) ∧ w'.cell? ⟨w.heap.size + 1, 0, none⟩ = some (.slice ao1 n1 c1))
      (first | exact⟨by assumption, by assumption⟩ | exact⟨(P0.alloc _).cell, (P1.alloc _).cell⟩ | exact⟨(P0.alloc _).drew.cell, (P1.alloc _).drew.cell⟩ | exact⟨(P0.other (by omega) _).cell, (P1.other (by omega) _).cell⟩ | go_keep)
      (first
      | (go_at_call 71; (first | (have S0 := S0.drew; have P0 := P0.drew; have P1 := P1.drew; have h0 := h0.drew; have h1 := h1.drew; have B0 := B0.drew; refine(atW h0 ql).mono ?_) | (have Sg := Ee h0 (.slice none 0 0) 32; have hgl := S0.lt; have S0 := S0.keep (ae _ (.cells #[.slice none 0 0] 32)); have P0 := P0.keep (ae _ (.cells #[.slice none 0 0] 32)); have P1 := P1.keep (ae _ (.cells #[.slice none 0 0] 32)); have h0 := h0.keep (ae _ (.cells #[.slice none 0 0] 32)); have h1 := h1.keep (ae _ (.cells #[.slice none 0 0] 32)); have B0 := ai B0 (ae _ (.cells #[.slice none 0 0] 32)); have S0 := S0.drew; have P0 := P0.drew; have P1 := P1.drew; have h0 := h0.drew; have h1 := h1.drew; have B0 := B0.drew; have Sg := Sg.drew; refine(atW h0 ql).mono ?_)); rintro e w1 ⟨au, ku, du, rfl, hU, hku, hB⟩; have S0 := S0.keep hB; have P0 := P0.keep hB; have P1 := P1.keep hB; have h0 := h0.keep hB; have h1 := h1.keep hB; have q0 := P0.cell; have q1 := P1.cell; have B0 := ai B0 hB; try (have Sg := Sg.keep hB); clear hB)
      | (go_at_call 63; (first | refine(atW h0 (qN false)).mono ?_ | (have Sg := Ee h0 (.slice none 0 0) 32; have hgl := S0.lt; have S0 := S0.keep (ae _ (.cells #[.slice none 0 0] 32)); have P0 := P0.keep (ae _ (.cells #[.slice none 0 0] 32)); have P1 := P1.keep (ae _ (.cells #[.slice none 0 0] 32)); have h0 := h0.keep (ae _ (.cells #[.slice none 0 0] 32)); have h1 := h1.keep (ae _ (.cells #[.slice none 0 0] 32)); have hU := hU.keep (ae _ (.cells #[.slice none 0 0] 32)); have B0 := ai B0 (ae _ (.cells #[.slice none 0 0] 32)); refine(atW h0 (qN false)).mono ?_)); rintro e w2 ⟨gc, rfl, S, hB⟩; have S0 := S0.keep hB; have P0 := P0.keep hB; have P1 := P1.keep hB; have h0 := h0.keep hB; have h1 := h1.keep hB; have hU := hU.keep hB; have q0 := P0.cell; have q1 := P1.cell; have B0 := ai B0 hB; try (have Sg := Sg.keep hB); clear hB)
      | (go_at_call 62; (first | refine(zx h0 h1 hU.a S hn0 hn1 (by omega) (by decide)).mono ?_ | (have Sg := Ee h0 (.slice none 0 0) 32; have hgl := S0.lt; have S0 := S0.keep (ae _ (.cells #[.slice none 0 0] 32)); have P0 := P0.keep (ae _ (.cells #[.slice none 0 0] 32)); have P1 := P1.keep (ae _ (.cells #[.slice none 0 0] 32)); have h0 := h0.keep (ae _ (.cells #[.slice none 0 0] 32)); have h1 := h1.keep (ae _ (.cells #[.slice none 0 0] 32)); have hU := hU.keep (ae _ (.cells #[.slice none 0 0] 32)); have S := S.keep (ae _ (.cells #[.slice none 0 0] 32)); have B0 := ai B0 (ae _ (.cells #[.slice none 0 0] 32)); refine(zx h0 h1 hU.a S hn0 hn1 (by omega) (by decide)).mono ?_)); rintro e w3 ⟨a', k', d', rfl, hO', hk', hB⟩; have S0 := S0.keep hB; have P0 := P0.keep hB; have P1 := P1.keep hB; have h0 := h0.keep hB; have h1 := h1.keep hB; have q0 := P0.cell; have q1 := P1.cell; have B0 := ai B0 hB; try (have Sg := Sg.keep hB); clear hB h0 h1 hU S; have hO' := hO'.eqv (py _ _); try (have cg := Sg.cell; have fg := Sg.free)))
    all_goals (
      obtain⟨ad, _⟩:= BP;obtain⟨nd, _⟩:= FC
      first
      | (obtain⟨g, hg, Sh⟩ : ∃ g, g = _ ∧ Slot w3 g (.slice none 0 0) 32 := ⟨_, rfl, Sg⟩
         rw[← hg] at hgl ⊢
         exact⟨g, au, ku, du, ad, nd, gc, a', k', d', rfl, Sh.put _, S0.other (by omega) _, hgl, hO'.put Sh eQ _, by omega, B0.setCell (p := ⟨g, 0, none⟩) (by show w.heap.size ≤ g; omega) _⟩)
      | (have hgl := S0.lt
         obtain⟨g, hg⟩ : ∃ g, g = w3.heap.size := ⟨_, rfl⟩;rw[← hg] at hgl ⊢
         exact⟨g, au, ku, du, ad, nd, gc, a', k', d', rfl, hg ▸ cM w3 _ _, S0.alloc _, hgl, hO'.keep (ae _ _), by omega, ai B0 (ae _ _)⟩))
  case h2 =>
    intro g a1 k1 d1 a2 k2 d2 a3 k3 d3 w4 hF;obtain⟨Sg, S0, hgl, hO, hk, HB⟩:= hF;have cg := Sg.cell;have c0 := S0.cell;have f0 := S0.free;have S2 := S0.put (.slice a3 k3 d3);have hOz := hO.put S0 eQ (.slice a3 k3 d3);have HBz := HB.setCell (p := ⟨w.heap.size + 1 + 1, 0, none⟩) (by show w.heap.size ≤ w.heap.size + 1 + 1; omega) (.slice a3 k3 d3);go_wp2;refine bodyPost_ret (eU rfl rfl S2) rfl ?_
    exact⟨a3, k3, d3, rfl, hOz, hk, HBz⟩
end
end Go.Proofs.YthfepflplbahkaaGreatDoor
namespace Go.Proofs.YthfepflplbahkaaGreatDoor
open Go.RowKit Lim
section
variable {w:World}{x:Int}{ao:Option Addr}{n c:Nat}
def xb(r:Int):List UInt8:=(dU 36 r).map fun c=>UInt8.ofNat c.toNat
def yP(r:Int):List UInt8:=if r=0 then [] else 46 :: Lib.trimRightB (xb r) 48
structure Di(S:ByteArray)(x:Int):Prop where
 ex:∃ Sw:ByteArray,rT Sw (x / U36)/\S.data.toList=Sw.data.toList ++ yP (x % U36)
theorem E1{S:ByteArray}{r:Int}(h:S.data.toList.map (fun c=>(c.toNat:Int))=dU 36 r):S.data.toList=xb r:=by
 unfold xb;rw[<- h,List.map_map]
 conv=>lhs; rw[<- List.map_id S.data.toList]
 apply List.map_congr_left;intro c _;simp[Function.comp]
def mo(w:World)(x:Int):Prop:=∀ g,fx g->ef g=x->g≠[]->0 < nth g (g.length - 1)->∀ wx,Below w.heap.size w wx->kA (nth g (g.length - 1)) wx
theorem mo.keep{w':World}(h:mo w x)(hb:Below w.heap.size w w'):mo w' x:=fun g h1 h2 h3 h4 wx hx=>h g h1 h2 h3 h4 wx (ai hb hx)
theorem DN(l:List UInt8)(c:UInt8):(Lib.trimRightB l c).length<=l.length:=by
 unfold Lib.trimRightB;rw[List.length_reverse];have:=(List.dropWhile_sublist (fun x=>x == c) (l:=l.reverse)).length_le;rwa [List.length_reverse] at this
theorem vD(r:Int):(xb r).length=36:=by unfold xb; rw[List.length_map,eA]
theorem nText(h:aN w ao n c x)(hn:n<=4294967296)(hA:mo w x) :
  Calls Tryz.prog 67 #[.slice ao n c] w fun e w'=>∃ s,e=.returned (.string s)/\rT s x/\s.size<=40 * n + 40/\Below w.heap.size w w':=by
 obtain⟨b,o,l,g,a,f,d,rfl⟩:=h.ex;exact BE ao n c b o l w g a hn f d hA
theorem Cw(h:aN w ao n c x)(hn:n<=4294967000)(hA:mo w (x / U36)) :
  Calls Tryz.prog 35 #[.agg #[.slice ao n c]] w fun e w'=>∃ S:ByteArray,e=.returned (.string S)/\Di S x/\S.size<=40 * n + 100/\Below w.heap.size w w':=by
 have B0:=ae w (.cells #[.slice ao n c] 32);have P0:=cM w (.slice ao n c) 32;have h:=h.keep B0;have hA:=hA.keep B0;have q0:=P0.cell;go_enter Tryz.func35,Tryz.ntmps35;have hx0:=h.mT;have hup:=sk
 have hr0:0<=x % U36:=Int.emod_nonneg _ (by omega)
 have hr1:x % U36 < U36:=Int.emod_lt_of_pos _ hup;go_wp2_with fail;refine(dTrunc h (by omega)).mono ?_
 rintro e w1 ⟨a1,k1,d1,a2,k2,d2,rfl,hO1,hO2,hk1,hk2,hB⟩;have B0:=ai B0 hB;have hA:=hA.keep hB;clear hB h P0 q0;have BA:=ae w1 (.cells #[.slice a2 k2 d2] 32);have SL:=cM w1 (.slice a2 k2 d2) 32;have hO1:=hO1.keep BA;have hO2:=hO2.keep BA;have hA:=hA.keep BA;have B0:=ai B0 BA;have tT:=nText hO1.a (by omega) hA;clear BA hA;go_wp2_with fail;refine tT.mono ?_
 rintro e w2 ⟨Sw,rfl,hSw,hSz,hB⟩;have hO2:=hO2.keep hB;have SL:=SL.keep hB;have B0:=ai B0 hB;have cL:=SL.cell;clear hB tT hO1;have tZ:=Ht hO2.a (by omega);generalize w1.heap.size=gL at *;by_cases hz:x % U36=0
 ·rw[decide_eq_true hz] at tZ;have HZ:=(show Hid _ from hz)
  clear hz;go_wp2_with fail;refine tZ.mono ?_
  rintro e w3 ⟨rfl,hB⟩;go_wp2;go_ret;exact⟨Sw,rfl,⟨Sw,hSw,by rw[HZ.out]; simp[yP]⟩,by omega,ai B0 hB⟩
 ·rw[decide_eq_false hz] at tZ;have HZ:=(show Hid _ from hz)
  clear hz;go_wp2_with fail;refine tZ.mono ?_
  rintro e w3 ⟨rfl,hB⟩;have hO2:=hO2.keep hB;have SL:=SL.keep hB;have B0:=ai B0 hB;have cL:=SL.cell;clear hB tZ;go_wp2_with fail;refine(Fq hO2.a (by omega) hr1).mono ?_
  rintro e w4 ⟨S,rfl,hS,hB⟩;have hS36:=E1 hS
  have hsz:S.size=36:=by
   have:(S.data.toList.map (fun c=>(c.toNat:Int))).length=36:=by rw[hS,eA]
   simpa using this
  have B0:=ai B0 hB;clear hB hS;have tR:=Tryz.strings_TrimRight_one S 48 (by decide) w4 (by omega);rw[hS36] at tR;generalize hR:(⟨(Lib.trimRightB (xb (x % U36)) 48).toArray⟩:ByteArray)=R at tR
  have hRs:R.size<=36:=by
   have h1:=DN (xb (x % U36)) 48;rw[vD] at h1;rw[<- hR];simpa[ByteArray.size] using h1
  have HR:=(show Hid _ from hR)
  clear hS36 hR;go_wp2_with fail;refine tR.mono ?_
  rintro e w5 ⟨rfl,rfl⟩;go_wp2_with fail;go_ret;refine⟨_,rfl,⟨Sw,hSw,?_⟩,?_,B0⟩
  ·rw[yP,if_neg HZ.out,<- HR.out];simp
  ·show (Sw ++ (⟨#[46]⟩:ByteArray) ++ R).size<=_
   rw[ByteArray.size_append,ByteArray.size_append];have:(⟨#[46]⟩:ByteArray).size=1:=rfl;omega
end
end Go.Proofs.YthfepflplbahkaaGreatDoor
