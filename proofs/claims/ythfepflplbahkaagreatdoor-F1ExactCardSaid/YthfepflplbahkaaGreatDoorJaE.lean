/- Several texts, joined: Pairs, Split, Text, Shelf, App, Frac, Known, Places, Dec2, Mid, Dec4, AB. -/
import Derived.Test.YthfepflplbahkaaGreatDoorJac
import Derived.Laws.Tables
import Derived.Laws.Rows
import Derived.Laws.CopyOwn
import Derived.Test.YthfepflplbahkaaGreatDoorJan
import Derived.Lib.AppendStr
import Derived.Shelf.Strings.Trim
import Derived.Shelf.LaysM
import Derived.Shelf.Strings.Search1
import Derived.Shelf.Strconv.AppendUint10
import Derived.Test.YthfepflplbahkaaGreatDoorProg
import Derived.Test.YthfepflplbahkaaGreatDoorJaa
import Derived.Deep.RegionLaw
import Derived.Deep.RegionHeld3
set_option maxRecDepth 100000
set_option maxHeartbeats 8000000
namespace Go.Proofs.YthfepflplbahkaaGreatDoor
open Go.RowKit Lim
section
variable {w:World}{g i:Nat}{l:List Int}
structure dG(w:World)(g:Nat)(t:TypeId)(l:List Int):Prop where
 blk:w.heap[g]? = some (.cells (l.map (Value.int .u8)).toArray t (0,0))
theorem dG.lt{t:TypeId}(h:dG w g t l):g < w.heap.size:=lt_of_block h.blk
theorem dG.keep{w':World}{t:TypeId}(h:dG w g t l)(hb:Below w.heap.size w w'):dG w' g t l:=⟨by rw[hb.block g h.lt]; exact h.blk⟩
theorem dG.cell{t:TypeId}(h:dG w g t l)(hi:i < l.length):w.cell? ⟨g,i,none⟩=some (.int .u8 (nth l i)):=by
 simp[World.cell?,h.blk,hi,cn hi]
theorem dG.free{t:TypeId}(h:dG w g t l)(i:Nat):w.frozen? ⟨g,i,none⟩=false:=by simp[World.frozen?,h.blk]
theorem dG.set{t:TypeId}(h:dG w g t l)(i:Nat)(x:Int):dG (w.setCell ⟨g,i,none⟩ (.int .u8 x)) g t (l.set i x):=⟨by
 have hb:=h.blk;simp only[World.setCell,Array.getElem?_modify,if_true,hb];simp⟩
theorem dG.other{g':Nat}{t:TypeId}(h:dG w g t l)(hne:g≠g')(u:Value):dG (w.setCell ⟨g',i,none⟩ u) g t l:=⟨by rw[Below.heap_setCell w _ u g hne]; exact h.blk⟩
theorem dG.drew{t:TypeId}(h:dG w g t l):dG w.drew g t l:=⟨h.blk⟩
theorem mz(w:World)(t:TypeId)(l:List Int):dG (w.alloc (.cells (l.map (Value.int .u8)).toArray t)) w.heap.size t l:=⟨by
 show (w.heap.push _)[w.heap.size]? = _
 rw[Array.getElem?_push_size]⟩
def cV:Nat->List Int
 | 0=>[]
 | k + 1=>cV k ++ [48 + (k:Int) / 10,48 + (k:Int) % 10]
theorem cy(k:Nat):(cV k).length=2 * k:=by
 induction k with
 | zero=>rfl
 | succ k ih=>simp[cV,ih]; omega
theorem wP{k:Nat}(h:i < k):nth (cV k) (2 * i)=48 + (i:Int) / 10/\nth (cV k) (2 * i + 1)=48 + (i:Int) % 10:=by
 induction k with
 | zero=>omega
 | succ k ih =>
  have hl:=cy k;by_cases e:i=k
  ·subst e;rw[cV,bO (by omega),bO (by omega),hl,Nat.sub_self,show 2 * i + 1 - 2 * i=1 by omega];exact⟨rfl,rfl⟩
  ·rw[cV,db (by omega),db (by omega)];exact ih (by omega)
theorem dPairs:Calls Tryz.prog 108 #[] w fun e w'=>e=.returned (.agg ((cV 100).map (Value.int .u8)).toArray)/\Below w.heap.size w w':=by
 go_enter Tryz.func108,Tryz.ntmps108;go_wp2
 have hz:Tryz.zeroCells183=((List.replicate 200 (0:Int)).map (Value.int .u8)).toArray:=by kernel_rfl
 rw[hz];have R1:=mz (w.alloc (.cells ((List.replicate 200 (0:Int)).map (Value.int .u8)).toArray 183)) 183 (List.replicate 200 0);rw[show (w.alloc (.cells ((List.replicate 200 (0:Int)).map (Value.int .u8)).toArray 183)).heap.size=w.heap.size + 1 by simp] at R1;have R0:=(mz w 183 (List.replicate 200 0)).keep (ae _ (.cells ((List.replicate 200 (0:Int)).map (Value.int .u8)).toArray 183));have B0:=ql w (.cells ((List.replicate 200 (0:Int)).map (Value.int .u8)).toArray 183) (.cells ((List.replicate 200 (0:Int)).map (Value.int .u8)).toArray 183);clear hz;generalize (w.alloc (.cells ((List.replicate 200 (0:Int)).map (Value.int .u8)).toArray 183)).alloc (.cells ((List.replicate 200 (0:Int)).map (Value.int .u8)).toArray 183)=w0 at *;go_loopw [3] (fun ti wr=>∃ k:Nat,k<=100/\ti=.int .i64 k/\dG wr (w.heap.size + 1) 183 (cV k ++ List.replicate (200 - 2 * k) 0)/\dG wr w.heap.size 183 (List.replicate 200 0)/\Below w.heap.size w wr) (fun ti _=>100 - (intOf ti).toNat)
 case atStart=>exact⟨0,by omega,rfl,R1,R0,B0⟩
 case round =>
  clear R1 R0 B0;obtain⟨k,hk,rfl,R1,R0,B0⟩:=hrel;by_cases hlt:k < 100
  ·have hkl:(k:Int) < 100:=by omega
   have hlen:(cV k ++ List.replicate (200 - 2 * k) (0:Int)).length=200:=by rw[List.length_append,cy,List.length_replicate]; omega
   have e0:nth (cV k ++ List.replicate (200 - 2 * k) (0:Int)) (k * 2)=0:=by
    rw[bO (by rw[cy]; omega),cn (by rw[cy,List.length_replicate]; omega)]; simp
   have e1:nth (cV k ++ List.replicate (200 - 2 * k) (0:Int)) (k * 2 + 1)=0:=by
    rw[bO (by rw[cy]; omega),cn (by rw[cy,List.length_replicate]; omega)]; simp
   have c1:=R1.cell (i:=k * 2) (by rw[hlen]; omega);have c2:=R1.cell (i:=k * 2 + 1) (by rw[hlen]; omega);rw[e0] at c1;rw[e1] at c2;have f1:=R1.free (k * 2);have f2:=R1.free (k * 2 + 1)
   have HR:Hid (dG ((wr.setCell ⟨w.heap.size + 1,k * 2,none⟩ (.int .u8 (48 + (k:Int) / 10))).setCell ⟨w.heap.size + 1,k * 2 + 1,none⟩ (.int .u8 (48 + (k:Int) % 10))) (w.heap.size + 1) 183 (cV (k + 1) ++ List.replicate (200 - 2 * (k + 1)) 0)):=by
    have:=(R1.set (k * 2) (48 + (k:Int) / 10)).set (k * 2 + 1) (48 + (k:Int) % 10)
    have hs:((cV k ++ List.replicate (200 - 2 * k) (0:Int)).set (k * 2) (48 + (k:Int) / 10)).set (k * 2 + 1) (48 + (k:Int) % 10)=cV (k + 1) ++ List.replicate (200 - 2 * (k + 1)) 0:=by
     rw[show 200 - 2 * k=200 - 2 * (k + 1) + 1 + 1 by omega,List.replicate_succ,List.replicate_succ,cV];rw[show k * 2=(cV k).length by rw[cy]; omega];rw[List.set_append_right _ _ (Nat.le_refl _),Nat.sub_self,List.set_cons_zero,List.set_append_right _ _ (by omega),Nat.add_sub_cancel_left,List.set_cons_succ,List.set_cons_zero];simp
    rw[hs] at this;exact this
   have H0:Hid (dG ((wr.setCell ⟨w.heap.size + 1,k * 2,none⟩ (.int .u8 (48 + (k:Int) / 10))).setCell ⟨w.heap.size + 1,k * 2 + 1,none⟩ (.int .u8 (48 + (k:Int) % 10))) w.heap.size 183 (List.replicate 200 0)):=(R0.other (by omega) _).other (by omega) _
   have HB:Hid (Below w.heap.size w ((wr.setCell ⟨w.heap.size + 1,k * 2,none⟩ (.int .u8 (48 + (k:Int) / 10))).setCell ⟨w.heap.size + 1,k * 2 + 1,none⟩ (.int .u8 (48 + (k:Int) % 10)))):=(B0.setCell (p:=⟨w.heap.size + 1,k * 2,none⟩) (by show w.heap.size<=w.heap.size + 1; omega) _).setCell (p:=⟨w.heap.size + 1,k * 2 + 1,none⟩) (by show w.heap.size<=w.heap.size + 1; omega) _;clear R1 R0 B0 e0 e1 hlen;go_wp2;go_roundw
   case rel=>exact⟨k + 1,by omega,by go_num,HR.out,H0.out,HB.out⟩
   case measure=>simp[intOf]; omega
  ·have hkn:k=100:=by omega
   subst hkn;rw[show cV 100 ++ List.replicate (200 - 2 * 100) (0:Int)=cV 100 by simp] at R1
   have hsz:((cV 100).map (Value.int .u8)).toArray.size=200:=by simp[cy]
   have HB:=(show Hid _ from B0)
   go_wp2_with (first
    | (refine wpList_load_row rfl 183 (.tmp 1) rfl (w.heap.size + 1) rfl 183 _ (0,0) _ R1.blk Tryz.underlying183 rfl (by rw[hsz]; kernel_rfl) ?_)
    | (refine wpList_store_row rfl 183 (.tmp 0) (.tmp 18) rfl w.heap.size _ rfl rfl 183 _ R0.blk (by rw[hsz]; kernel_rfl) (by rw[hsz]; simp) (by simp[Value.oneCell']) ?_))
   have hrow:=setRow_heap wr w.heap.size _ ((cV 100).map (Value.int .u8)).toArray _ _ R0.blk;refine bodyPost_ret (results_cell_row rfl _ _ w.heap.size 183 _ (0,0) _ rfl hrow Tryz.underlying183 rfl (by rw[hsz]; kernel_rfl)) rfl ?_
   exact⟨rfl,below_setRow HB.out (Nat.le_refl _) _⟩
end
end Go.Proofs.YthfepflplbahkaaGreatDoor
namespace Go.Proofs.YthfepflplbahkaaGreatDoor
open Go.RowKit Lim
section
variable {l:List Int}{w:World}{B n:Nat}{v:Value}{xs:List Value}
def ey:List Int->Int
 | []=>0
 | x :: l=>x + 10000000000000000000 * ey l
def fS(l:List Int):Prop:=∀ x∈l,0<=x/\x < 10000000000000000000
theorem kU(a b:List Int):ey (a ++ b)=ey a + 10000000000000000000 ^ a.length * ey b:=by
 induction a with
 | nil=>simp[ey]
 | cons x a ih=>simp only[List.cons_append,ey,ih,List.length_cons,Int.pow_succ]; grind
theorem gR(h:fS l):0<=ey l:=by
 induction l with
 | nil=>simp[ey]
 | cons x l ih=>have:=h x List.mem_cons_self; have:=ih fun y hy=>h y (List.mem_cons_of_mem _ hy); simp only[ey]; omega
def lenOf:Value->Nat | .slice _ n _=>n | _=>0
theorem rW:Tryz.prog.underlying 29=some (.slice 22):=by kernel_rfl
theorem Cr{e:TypeId}(h:w.ownsRow B e 1 v n xs):lenOf v=n:=by
 rcases h.2 with⟨rfl,h0⟩ | ⟨g',cap,cur,rfl,_⟩
 ·simp[lenOf,h0]
 ·rfl
theorem eA.wr{b o:Nat}{w':World}(h:eA w B v l)(hw:Wr b o n w w')(hb:b < B):eA w' B v l:=by
 obtain⟨h1,h2⟩:=h;refine⟨h1,?_⟩;rcases h2 with h2 | ⟨g,cap,cur,rfl,hB1,hh,hr⟩
 ·exact .inl h2
 ·exact .inr ⟨g,cap,cur,rfl,hB1,by rw[hw.block g (by omega)]; exact hh,hr⟩
theorem eA.mono{B':Nat}(h:eA w B v l)(hB:B'<=B):eA w B' v l:=by
 obtain⟨h1,h2⟩:=h;refine⟨h1,?_⟩;rcases h2 with h2 | ⟨g,cap,cur,rfl,hB1,hr⟩
 ·exact .inl h2
 ·exact .inr ⟨g,cap,cur,rfl,by omega,hr⟩
theorem mi{k:Nat}{V R:Int}(h1:10000000000000000000 ^ k * R<=V)(hR:1<=R)(h2:V < 18446744073709551616 ^ n):k<=2 * n:=by
 by_cases c:k<=2 * n
 ·exact c
 ·have e1:(18446744073709551616:Int) ^ n<=(4294967296 ^ 2) ^ n:=by rw[show (4294967296:Int) ^ 2=18446744073709551616 from rfl]; exact Int.le_refl _
  rw[<- Int.pow_mul] at e1
  have e2:(4294967296:Int) ^ (2 * n)<=4294967296 ^ k:=by
   have:(4294967296:Nat) ^ (2 * n)<=4294967296 ^ k:=Nat.pow_le_pow_right (by decide) (by omega)
   have a1:((4294967296 ^ (2 * n):Nat):Int)=(4294967296:Int) ^ (2 * n):=by rw[Int.natCast_pow]; rfl
   have a2:((4294967296 ^ k:Nat):Int)=(4294967296:Int) ^ k:=by rw[Int.natCast_pow]; rfl
   omega
  have e3:(4294967296:Int) ^ k<=10000000000000000000 ^ k:=by
   have:(4294967296:Nat) ^ k<=10000000000000000000 ^ k:=Nat.pow_le_pow_left (by omega) _
   have a1:((4294967296 ^ k:Nat):Int)=(4294967296:Int) ^ k:=by rw[Int.natCast_pow]; rfl
   have a2:((10000000000000000000 ^ k:Nat):Int)=(10000000000000000000:Int) ^ k:=by rw[Int.natCast_pow]; rfl
   omega
  have e4:(10000000000000000000:Int) ^ k * 1<=10000000000000000000 ^ k * R:=Int.mul_le_mul_of_nonneg_left hR (Int.le_of_lt (Int.pow_pos (by decide)));omega
theorem j0(ao:Option Addr)(n c b o:Nat)(l:List Int)(w:World)(hl:l.length=n)(hc:n<=c)(hbig:n<=1099511627776)(wl:Words l)(ha:At w ao b o l) :
  Calls Tryz.prog 101 #[.slice ao n c] w fun e w'=>∃ v g,e=.returned v/\eA w' w.heap.size v g/\fS g/\ey g=val l/\(g≠[]->0 < nth g (g.length - 1))/\g.length<=2 * n + 1/\Below w.heap.size w w':=by
 obtain⟨i0,hi,hz0,hz1,hz2⟩:=info_parts gV;have hV:=dF wl;rw[hl] at hV;go_enter Tryz.func101,Tryz.ntmps101;go_wp2_with fail;refine(jJ ao n c b o l w hl hc hbig ha).mono ?_
 rintro e w1 ⟨rfl,hrow,hb1⟩;have hn:=bH l;have hnl:=aL l;have hI:=cE wl;have hlt1:=hrow.lt;go_wp2_with fail;go_loopw [3,4] (fun tg tr wr=>∃ (g lr:List Int) (N C:Nat),tr=.slice (some ⟨w.heap.size,0,none⟩) N C/\Hid (N=lr.length)/\N<=C/\N<=n/\Hid (lenOf tg=g.length)/\eA wr (w.heap.size + 1) tg g/\fS g/\Words lr/\Hid (aJ lr=lr.length)/\Hid (ey g + 10000000000000000000 ^ g.length * val lr=val l)/\Hid (g≠[]->val lr=0->0 < nth g (g.length - 1))/\At wr (some ⟨w.heap.size,0,none⟩) w.heap.size 0 lr/\dK wr w.heap.size 0 N/\w.heap.size < wr.heap.size/\Below w.heap.size w wr) (fun tg _ _=>2 * n + 2 - lenOf tg)
 case atStart=>exact⟨[],norm l,aJ l,aJ l,rfl,hnl.symm,Nat.le_refl _,by omega,rfl,World.ownsRow_nil _ _ _ _,fun x hx=>by simp at hx,hI.1,hI.2.1,by show _=_; simp[ey,dj],fun h=>absurd rfl h,hrow.at,hrow.free _ _,hlt1,hb1⟩
 case round =>
  clear hrow hb1 hnl hI hlt1 hn;obtain⟨g,lr,N,C,rfl,hN,hNC,hNn,hlg,hmg,hgo,hwr,hnr,hval,htop,hat,hfr,hsz,hbe⟩:=hrel;by_cases hlt:0 < N
  ·go_wp2_with fail;refine(gN (some ⟨w.heap.size,0,none⟩) w.heap.size 0 N C 10000000000000000000 lr wr hN.out.symm (by omega) hNC (by decide) (by decide) hwr hat hfr).mono ?_
   rintro e w2 ⟨left,lz,rfl,hf0,hf1,hlz,hwz,hatz,hwr2,hvz⟩
   have hgl:g.length<=2 * n:=by
    have hn0:=hN.out;have hp:=qi hwr (by have:=hnr.out; omega);have hg0:=gR hgo;have hv:=hval.out;exact mi (V:=val l) (R:=val lr) (by omega) (by omega) hV
   have hmg2:=hmg.wr hwr2 (by omega)
   have hown:w2.ownsRow (w.heap.size + 1) 22 1 _ g.length (g.map (Value.int .u64)):=hmg2
   have hsz2:wr.heap.size<=w2.heap.size:=Nat.le_of_eq hwr2.size.symm
   have hsz2':w2.heap.size<=wr.heap.size:=Nat.le_of_eq hwr2.size;generalize hGL:g.length=G at *;have HGL:=(show Hid _ from hGL)
   clear hGL;go_wp2_with (at_builtin; refine wpList_append_own _ rfl _ _ 29 rfl (w.heap.size + 1) 22 i0 (.int .u64 0) 1 8 rW hi hz0 hz1 hz2 rfl (by decide) _ _ _ rfl (hown.alloc _) ⟨w2.heap.size,0,none⟩ 1 1 [.int .u64 left] rfl rfl ?c1 ?c2 ?c3 ?c4 ?c5 ?_)
   case c1=>exact cell_one_new _ _ _
   case c2=>intro u hu; simp at hu; subst hu; rfl
   case c3=>unfold maxLen; omega
   case c4=>omega
   case c5=>simp; omega
   intro v' w3 hown' hgrow _
   have hB3:Below (w.heap.size + 1) w2 w3:=((Below.refl _ _).alloc (by omega) _).grown hgrow (by simp; omega) (rS hmg2);have hat3:=hatz.below hB3 (.inr (by omega));have hfr2:=hwr2.free hfr
   have hfr3:dK w3 w.heap.size 0 N:=fun i hi=>by rw[hB3.frozen (p:=⟨w.heap.size,0 + i,none⟩) (by show w.heap.size < _; omega)]; exact hfr2 i hi
   have hM:eA w3 (w.heap.size + 1) v' (g ++ [left]):=by
    unfold eA;rw[List.length_append,HGL.out,List.map_append]; exact hown'
   have hlv:=Cr hown';have hsz3:=hB3.size
   have HB:Below w.heap.size w w3:=(hbe.trans (hwr2.below (Nat.le_refl _))).trans (hB3.mono (by omega));have t3:=bG (some ⟨w.heap.size,0,none⟩) N C lz w3 hlz hNC (by omega) hat3.cells;have hz1:=bH lz;have hz2:=aL lz;have hz3:=hat3.sub (aJ lz);have hz4:=oq lz;have hz5:=dj lz;have hz6:=hwz.norm;rw[show lz.take (aJ lz)=norm lz from rfl] at hz3
   have hvl:0 < val lr:=qi hwr (by have:=hnr.out; have:=hN.out; omega)
   have HV:Hid (ey (g ++ [left]) + 10000000000000000000 ^ (g ++ [left]).length * val (norm lz)=val l):=by
    show _=_
    rw[kU,List.length_append,hz5,<- hval.out,<- hvz,HGL.out,List.length_singleton,Int.pow_succ];simp only[ey];grind
   have HT:Hid ((g ++ [left])≠[]->val (norm lz)=0->0 < nth (g ++ [left]) ((g ++ [left]).length - 1)):=by
    intro _ h0;rw[List.length_append,List.length_singleton,Nat.add_sub_cancel,bO (Nat.le_refl _),Nat.sub_self,cO];rw[hz5] at h0;rw[h0] at hvz;omega
   have HL:Hid (lenOf v'=(g ++ [left]).length):=by show _=_; rw[hlv,List.length_append,HGL.out]; rfl
   have HO:fS (g ++ [left]):=by
    intro x hx;rcases List.mem_append.1 hx with e | e
    ·exact hgo x e
    ·simp at e; subst e; exact⟨hf0,hf1⟩
   clear hown' hgrow hown hmg2 hmg hat3 hatz hwr2 hvz hat hfr hfr2 hval htop hbe hB3 hz5;generalize aJ lz=K at *;generalize norm lz=R at *;go_wp2_with fail;refine t3.mono ?_
   rintro e w6 ⟨rfl,rfl⟩;go_wp2;go_roundw
   case rel=>exact⟨g ++ [left],R,K,K,rfl,hz2.symm,Nat.le_refl _,by omega,HL,hM,HO,hz6,hz4,HV,HT,hz3,fun i hi=>hfr3 i (by omega),by omega,HB⟩
   case measure =>
    rw[HL.out,hlg.out,List.length_append,HGL.out,List.length_singleton];omega
  ·have hN0:lr=[]:=List.eq_nil_of_length_eq_zero (by have:=hN.out; omega);subst hN0;have hv:=hval.out;rw[show val []=0 from rfl,Int.mul_zero,Int.add_zero] at hv;have ht:=fun h=>htop.out h rfl
   have hgl:g.length<=2 * n + 1:=by
    have hg0:=gR hgo;by_cases h0:g=[]
    ·subst h0; simp
    ·have hne:g.length≠0:=fun e=>h0 (List.eq_nil_of_length_eq_zero e)
     have hlast:=ht h0
     have hsp:g=g.take (g.length - 1) ++ [nth g (g.length - 1)]:=by
      rw[<- dX (by omega),show g.length - 1 + 1=g.length from by omega,List.take_of_length_le (Nat.le_refl _)]
     have hgv:ey g=ey (g.take (g.length - 1)) + 10000000000000000000 ^ (g.length - 1) * nth g (g.length - 1):=by
      conv=>lhs; rw[hsp]
      rw[kU,List.length_take,Nat.min_eq_left (by omega)]; simp[ey]
     have h3:=gR (l:=g.take (g.length - 1)) (fun x hx=>hgo x (List.mem_of_mem_take hx));have:=mi (V:=val l) (R:=nth g (g.length - 1)) (k:=g.length - 1) (by omega) (by omega) hV;omega
   have hmg':eA wr w.heap.size _ g:=hmg.mono (by omega);clear hval htop hlg hmg hN;have HV:=(show Hid _ from hv)
   clear hv;go_wp2;go_ret;exact⟨_,g,rfl,hmg',hgo,HV.out,ht,hgl,hbe⟩
end
end Go.Proofs.YthfepflplbahkaaGreatDoor
namespace Go.Proofs.YthfepflplbahkaaGreatDoor
open Go.RowKit Lim
section
variable {g l:List Int}{w:World}{v:Value}
def rB(u:Int)(wx:World):Prop:=Calls Tryz.prog 102 #[.slice none 0 0,.int .u64 u,.int .i64 10] wx fun e w'=>∃ v d,e=.returned v/\fI w' wx.heap.size v d/\fP d/\dvI d=u/\0 < d.length/\d.length<=20/\nth d 0≠48/\Below wx.heap.size wx w'
theorem jR:Tryz.prog.underlying 9=some .string:=by kernel_rfl
theorem qV:Tryz.prog.underlying 5=some (.int .u8):=by kernel_rfl
theorem oy(d:List Int):∀ r:ByteArray,(d.foldl (fun r n=>r.push (UInt8.ofNat n.toNat)) r).data.toList=r.data.toList ++ d.map (fun n=>UInt8.ofNat n.toNat):=by
 induction d with
 | nil=>intro r; simp
 | cons c d ih=>intro r; rw[List.foldl_cons,ih]; simp
theorem nZ{i:Nat}(h:i < g.length):ey (g.drop i)=nth g i + 10000000000000000000 * ey (g.drop (i + 1)):=by
 rw[List.drop_eq_getElem_cons h,ey,cn h]
theorem fI.open{B:Nat}(h:fI w B v l)(hl:0 < l.length):∃ g c,v=.slice (some ⟨g,0,none⟩) l.length c/\l.length<=c/\B<=g/\AtB w (some ⟨g,0,none⟩) g 0 l/\dK w g 0 l.length:=by
 obtain⟨_,h2⟩:=h;rcases h2 with⟨rfl,h0⟩ | ⟨g,cap,cur,rfl,hB,hh,hle,hmx,hsz,htk⟩
 ·omega
 ·refine⟨g,cap,rfl,hle,hB,⟨.inr rfl,fun i hi => ?_⟩,fun i hi => ?_⟩
  ·have e:cur.toList[i]? = some (.int .u8 (nth l i)):=by
    have h1:(cur.toList.take (l.length * 1))[i]? = some (.int .u8 (nth l i)):=by
     rw[htk,List.getElem?_map,List.getElem?_eq_getElem hi,cn hi]; rfl
    rwa [Nat.mul_one,List.getElem?_take_of_lt hi] at h1
   simp only[World.cell?,hh];simpa using e
  ·simp[World.frozen?,hh]
structure pE(s:ByteArray)(n:Int):Prop where
 bytes:∃ d:List Int,s.data.toList.map (fun c=>(c.toNat:Int))=d/\fP d/\dvI d=n/\0 < d.length/\(d.length=1\/nth d 0≠48)
theorem Ao(ao:Option Addr)(n c b o:Nat)(l:List Int)(w:World)(hl:l.length=n)(hc:n<=c)(hbig:n<=4294967296)(wl:Words l)(ha:At w ao b o l)(hApp:∀ g,fS g->ey g=val l->g≠[]->0 < nth g (g.length - 1)->∀ wx,Below w.heap.size w wx->rB (nth g (g.length - 1)) wx) :
  Calls Tryz.prog 67 #[.slice ao n c] w fun e w'=>∃ s,e=.returned (.string s)/\pE s (val l)/\s.size<=40 * n + 40/\Below w.heap.size w w':=by
 go_enter Tryz.func67,Tryz.ntmps67;go_wp2_with fail;refine(j0 ao n c b o l w hl hc (by omega) wl ha).mono ?_
 rintro e w1 ⟨v,g,rfl,hmg,hgo,hgv,htop,hgl,hb1⟩;obtain⟨ag,cg,rfl,hgc,_,bg,hloc,hBg,hatg,_⟩:=hmg.open;have hsz1:=hb1.size;by_cases hg0:g=[]
 ·subst hg0
  have hv0:val l=0:=by rw[<- hgv]; rfl
  have HV0:=(show Hid _ from hv0)
  clear hgv hv0;go_wp2;go_ret;refine⟨_,rfl,⟨[48],rfl,fun c hc=>by rw[List.mem_singleton] at hc; subst hc; decide,by rw[HV0.out]; rfl,by simp,.inl rfl⟩,?_,hb1⟩
  show 1<=_; omega
 ·have hgp:0 < g.length:=Nat.pos_of_ne_zero fun e=>hg0 (List.eq_nil_of_length_eq_zero e)
  rcases hloc with e | rfl
  ·exact absurd e hg0
  have tA:=hApp g hgo hgv hg0 (htop hg0);have HGV:=(show Hid _ from hgv)
  have hcell:=hatg.cell (g.length - 1) (by omega);rw[Nat.zero_add] at hcell;obtain⟨m,hm⟩:∃ m,g.length=m + 1:=⟨g.length - 1,by omega⟩
  rw[hm,Nat.add_sub_cancel] at hcell tA;have HM:=(show Hid _ from hm)
  rw[hm]
  have hu0:(m:Int) < (m:Int) + 1:=by omega
  clear hgv htop hApp hm hgc
  have hmg1:m + 1<=2 * n + 1:=by have:=HM.out; omega
  generalize hU:nth g m=U at *;have HU:=(show Hid _ from hU)
  clear hU;go_wp2_with fail;have tB:=tA w1 hb1;unfold rB at tB;clear tA;refine tB.mono ?_
  rintro e w2 ⟨v2,d0,rfl,hm2,hd2,hdv2,hd20,hd21,hd22,hb2⟩;have hsz2:=hb2.size;have hat2:=hatg.keep hb2;go_wp2_with fail;go_loopw [5,21] (fun tt ti wr=>∃ (k:Nat) (d:List Int),k<=m/\ti=.int .i64 k/\fI wr w1.heap.size tt d/\fP d/\Hid (dvI d=ey (g.drop (m - k)))/\0 < d.length/\d.length<=20 + 19 * k/\nth d 0≠48/\Below w1.heap.size w1 wr) (fun _ ti _=>m - (intOf ti).toNat)
  case atStart=>exact⟨0,d0,Nat.zero_le _,rfl,hm2,hd2,by show _=_; rw[hdv2,Nat.sub_zero,nZ (by have:=HM.out; omega),List.drop_of_length_le (by have:=HM.out; omega),HU.out]; simp[ey],hd20,by omega,hd22,hb2⟩
  case round =>
   clear hm2 hd2 hdv2 hd20 hd21 hd22 hb2 hat2;obtain⟨k,d,hk,rfl,hmd,hdd,hdv,hdl0,hdl1,hd48,hbe⟩:=hrel;by_cases hlt:k < m
   ·obtain⟨h,hh⟩:∃ h:Nat,(m:Int) - 1 - k=h:=⟨m - 1 - k,by omega⟩
    have hh1:(h:Int) < (m:Int) + 1:=by omega
    have hhm:m - k=h + 1:=by omega
    have hatw:=hatg.below (hbe.mono (Nat.le_refl _)) (.inr (aK hcell));have hcw:=hatw.cell h (by have:=HM.out; omega);rw[Nat.zero_add] at hcw;have hgh:=hgo (nth g h) (lI (by have:=HM.out; omega));have HD:=hdv.out;rw[hhm] at HD
    have HD:Hid (dvI d=ey (g.drop (h + 1))):=HD
    have HG:Hid (ey (g.drop (m - (k + 1)))=nth g h + 10000000000000000000 * ey (g.drop (h + 1))):=by
     show _=_
     rw[show m - (k + 1)=h from by omega,nZ (by have:=HM.out; omega)]
    have HX:Hid (nth g h=nth g h):=rfl;generalize nth g h=x at *;clear hatw hdv;go_wp2_with (go_at_call 103; refine(lj w1.heap.size _ d x _ hbe.size hmd (by omega) hgh.1 hgh.2).mono ?_; rintro e w5 ⟨v5,q,rfl,hm5,hq5,hql,hqv,hb5⟩);go_roundw
    case rel =>
     refine⟨k + 1,d ++ q,by omega,by go_num,hm5,?_,?_,by simp; omega,by simp; omega,?_,hbe.trans hb5⟩
     ·intro c hc;rcases List.mem_append.1 hc with e | e
      ·exact hdd c e
      ·exact hq5 c e
     ·show _=_
      rw[fO,hql,hqv,HD.out,HG.out,show (10:Int) ^ 19=10000000000000000000 from rfl]; grind
     ·rw[db hdl0]; exact hd48
    case measure=>simp[intOf]; omega
   ·have hkm:k=m:=by omega
    subst hkm;rw[Nat.sub_self,List.drop_zero] at hdv;obtain⟨gb,cb,rfl,hdc,hgb,hatd,_⟩:=hmd.open hdl0;have hload:=run_loadCells_list (P:=Tryz.prog) wr ⟨gb,0,none⟩ (d.map (Value.int .u8)) (fun j u hu=>by
     rw[List.getElem?_map] at hu
     have hj:j < d.length:=by
      rcases Nat.lt_or_ge j d.length with hj | hj
      ·exact hj
      ·rw[List.getElem?_eq_none hj] at hu; simp at hu
     rw[List.getElem?_eq_getElem hj] at hu;simp at hu;subst hu;have:=hatd.cell j hj;rw[cn hj] at this;rw[<- this];by_cases hj0:j=0
     ·subst hj0; exact congrArg wr.cell? (by simp[Addr.add])
     ·exact congrArg wr.cell? (by simp[Addr.add,hj0]))
    rw[List.length_map] at hload;have hconv:=(run_convert_bytes_string (P:=Tryz.prog) wr 96 9 5 (some ⟨gb,0,none⟩) d.length cb cM qV jR).trans (run_bytesToString wr ⟨gb,0,none⟩ d.length cb d hload);obtain⟨S,hS⟩:∃ S,d.foldl (fun r n=>r.push (UInt8.ofNat n.toNat)) ByteArray.empty=S:=⟨_,rfl⟩
    rw[hS] at hconv;have HS:=(show Hid _ from hS)
    clear hS hload
    have HB:Below w.heap.size w wr:=hb1.trans (hbe.mono hsz1);go_wp2;go_ret;have e1:=oy d ByteArray.empty;rw[HS.out] at e1
    have e2:S.data.toList.map (fun c=>(c.toNat:Int))=d:=by
     rw[e1];simp only[show ByteArray.empty.data.toList=[] from rfl,List.nil_append,List.map_map]
     conv=>rhs; rw[<- List.map_id d]
     apply List.map_congr_left;intro c hc;have:=hdd c hc;simp[Function.comp,UInt8.toNat_ofNat'];omega
    refine⟨S,rfl,⟨d,e2,hdd,by rw[hdv.out,HGV.out],hdl0,.inr hd48⟩,?_,HB⟩;have:S.size=d.length:=by rw[<- e2]; simp
    omega
end
end Go.Proofs.YthfepflplbahkaaGreatDoor
namespace Go.Proofs
open Go.Shelf
def Tryz.qX:Go.Shelf.Ren:=⟨fun | 162=>68 | 232=>104 | 227=>105 | 234=>106 | 236=>107 | 228=>162 | 271=>163 | 151=>164 | 120=>203 | 197=>204 | 152=>205 | 260=>235 | 137=>236 | 119=>237 | 224=>238 | 225=>239 | 217=>253 | 266=>259 | n=>n,fun | 9=>9 | 4=>4 | 3=>3 | 5=>5 | 117=>177 | 116=>176 | 0=>0 | 124=>180 | 21=>21 | 105=>247 | 46=>217 | 119=>229 | 139=>334 | 138=>333 | n=>n,fun | 3=>3 | 4=>4 | n=>n⟩
theorem Tryz.Di:Go.Proofs.Lays.n162 Tryz.prog Tryz.qX:={
 mixed:=by kernel_rfl
 f119:=Tryz.func237.trans (congrArg some (by kernel_rfl))
 f120:=Tryz.func203.trans (congrArg some (by kernel_rfl))
 f137:=Tryz.func236.trans (congrArg some (by kernel_rfl))
 f151:=Tryz.func164.trans (congrArg some (by kernel_rfl))
 f152:=Tryz.func205.trans (congrArg some (by kernel_rfl))
 f162:=Tryz.func68.trans (congrArg some (by kernel_rfl))
 f197:=Tryz.func204.trans (congrArg some (by kernel_rfl))
 f217:=Tryz.func253.trans (congrArg some (by kernel_rfl))
 f224:=Tryz.func238.trans (congrArg some (by kernel_rfl))
 f225:=Tryz.func239.trans (congrArg some (by kernel_rfl))
 f227:=Tryz.func105.trans (congrArg some (by kernel_rfl))
 f228:=Tryz.func162.trans (congrArg some (by kernel_rfl))
 f232:=Tryz.func104.trans (congrArg some (by kernel_rfl))
 f234:=Tryz.func106.trans (congrArg some (by kernel_rfl))
 f236:=Tryz.func107.trans (congrArg some (by kernel_rfl))
 f260:=Tryz.func235.trans (congrArg some (by kernel_rfl))
 f266:=Tryz.func259.trans (congrArg some (by kernel_rfl))
 f271:=Tryz.func163.trans (congrArg some (by kernel_rfl))
 t0:=Tryz.underlying0
 a0:=Tryz.isAgg0
 z0:=Tryz.sizeOf0
 v0:=Tryz.zeroValue0
 t3:=Tryz.underlying3
 a3:=Tryz.isAgg3
 z3:=Tryz.sizeOf3
 v3:=Tryz.zeroValue3
 t4:=Tryz.underlying4
 a4:=Tryz.isAgg4
 z4:=Tryz.sizeOf4
 v4:=Tryz.zeroValue4
 t5:=Tryz.underlying5
 a5:=Tryz.isAgg5
 z5:=Tryz.sizeOf5
 v5:=Tryz.zeroValue5
 t9:=Tryz.underlying9
 a9:=Tryz.isAgg9
 z9:=Tryz.sizeOf9
 v9:=Tryz.zeroValue9
 t21:=Tryz.underlying21
 a21:=Tryz.isAgg21
 z21:=Tryz.sizeOf21
 v21:=Tryz.zeroValue21
 t46:=Tryz.underlying217
 a46:=Tryz.isAgg217
 z46:=Tryz.sizeOf217
 v46:=Tryz.zeroValue217
 t105:=Tryz.underlying247
 a105:=Tryz.isAgg247
 z105:=Tryz.sizeOf247
 v105:=Tryz.zeroValue247
 t116:=Tryz.underlying176
 a116:=Tryz.isAgg176
 z116:=Tryz.sizeOf176
 t117:=Tryz.underlying177
 a117:=Tryz.isAgg177
 z117:=Tryz.sizeOf177
 v117:=Tryz.zeroValue177
 t119:=Tryz.underlying229
 a119:=Tryz.isAgg229
 z119:=Tryz.sizeOf229
 t124:=Tryz.underlying180
 a124:=Tryz.isAgg180
 z124:=Tryz.sizeOf180
 v124:=Tryz.zeroValue180
 t138:=Tryz.underlying333
 a138:=Tryz.isAgg333
 z138:=Tryz.sizeOf333
 v138:=Tryz.zeroValue333
 t139:=Tryz.underlying334
 a139:=Tryz.isAgg334
 z139:=Tryz.sizeOf334
 v139:=Tryz.zeroValue334
 g3:=by kernel_rfl
 g4:=by kernel_rfl }
open Go.RowKit in
theorem Tryz.strings_TrimRight_one (s:ByteArray) (c:UInt8) (hc:c.toNat < 128) (w:World) (hs:s.size<=9223372036854775807) :
  Calls Tryz.prog 68 #[.string s,.string ⟨#[c]⟩] w fun e w'=>e=.returned (.string ⟨(Lib.trimRightB s.data.toList c).toArray⟩)/\w'=w:=Any.strings_TrimRight_one Tryz.Di s c hc w hs
def Tryz.oY:Go.Shelf.Ren:=⟨fun | 288=>160 | 283=>199 | 284=>200 | 285=>201 | 286=>202 | 129=>139 | 317=>231 | 318=>232 | 319=>233 | 320=>234 | 337=>251 | 338=>252 | n=>n,fun | 37=>96 | 53=>22 | 3=>3 | 4=>4 | 9=>9 | 171=>284 | 0=>0 | 173=>286 | 212=>314 | 51=>315 | 5=>5 | 20=>20 | 213=>316 | 46=>217 | 232=>339 | 233=>340 | n=>n,fun | 17=>2 | 18=>6 | 19=>7 | n=>n⟩
theorem Tryz.yK:Go.Proofs.LaysM.n288 Tryz.prog Tryz.oY:={
 mixed:=by kernel_rfl
 f129:=Tryz.func139.trans (congrArg some (by kernel_rfl))
 f283:=Tryz.func199.trans (congrArg some (by kernel_rfl))
 f284:=Tryz.func200.trans (congrArg some (by kernel_rfl))
 f285:=Tryz.func201.trans (congrArg some (by kernel_rfl))
 f286:=Tryz.func202.trans (congrArg some (by kernel_rfl))
 f288:=Tryz.func160.trans (congrArg some (by kernel_rfl))
 f317:=Tryz.func231.trans (congrArg some (by kernel_rfl))
 f318:=Tryz.func232.trans (congrArg some (by kernel_rfl))
 f319:=Tryz.func233.trans (congrArg some (by kernel_rfl))
 f320:=Tryz.func234.trans (congrArg some (by kernel_rfl))
 f337:=Tryz.func251.trans (congrArg some (by kernel_rfl))
 f338:=Tryz.func252.trans (congrArg some (by kernel_rfl))
 t0:=Tryz.underlying0
 a0:=Tryz.isAgg0
 z0:=Tryz.sizeOf0
 v0:=Tryz.zeroValue0
 t3:=Tryz.underlying3
 a3:=Tryz.isAgg3
 z3:=Tryz.sizeOf3
 v3:=Tryz.zeroValue3
 t4:=Tryz.underlying4
 a4:=Tryz.isAgg4
 z4:=Tryz.sizeOf4
 v4:=Tryz.zeroValue4
 t5:=Tryz.underlying5
 a5:=Tryz.isAgg5
 z5:=Tryz.sizeOf5
 v5:=Tryz.zeroValue5
 t9:=Tryz.underlying9
 a9:=Tryz.isAgg9
 z9:=Tryz.sizeOf9
 v9:=Tryz.zeroValue9
 t20:=Tryz.underlying20
 a20:=Tryz.isAgg20
 z20:=Tryz.sizeOf20
 v20:=Tryz.zeroValue20
 t37:=Tryz.underlying96
 a37:=Tryz.isAgg96
 z37:=Tryz.sizeOf96
 v37:=Tryz.zeroValue96
 t46:=Tryz.underlying217
 a46:=Tryz.isAgg217
 z46:=Tryz.sizeOf217
 v46:=Tryz.zeroValue217
 t51:=Tryz.underlying315
 a51:=Tryz.isAgg315
 z51:=Tryz.sizeOf315
 v51:=Tryz.zeroValue315
 t53:=Tryz.underlying22
 a53:=Tryz.isAgg22
 z53:=Tryz.sizeOf22
 v53:=Tryz.zeroValue22
 t171:=Tryz.underlying284
 a171:=Tryz.isAgg284
 z171:=Tryz.sizeOf284
 v171:=Tryz.zeroValue284
 t173:=Tryz.underlying286
 a173:=Tryz.isAgg286
 z173:=Tryz.sizeOf286
 v173:=Tryz.zeroValue286
 t212:=Tryz.underlying314
 a212:=Tryz.isAgg314
 z212:=Tryz.sizeOf314
 v212:=Tryz.zeroValue314
 t213:=Tryz.underlying316
 a213:=Tryz.isAgg316
 z213:=Tryz.sizeOf316
 t232:=Tryz.underlying339
 a232:=Tryz.isAgg339
 z232:=Tryz.sizeOf339
 v232:=Tryz.zeroValue339
 t233:=Tryz.underlying340
 a233:=Tryz.isAgg340
 z233:=Tryz.sizeOf340
 v233:=Tryz.zeroValue340
 g17:=by kernel_rfl
 g18:=by kernel_rfl
 g19:=by kernel_rfl
 i0:=by kernel_rfl
 i3:=by kernel_rfl
 i4:=by kernel_rfl
 i5:=by kernel_rfl
 i9:=by kernel_rfl
 i20:=by kernel_rfl
 i37:=by kernel_rfl
 i46:=by kernel_rfl
 i51:=by kernel_rfl
 i53:=by kernel_rfl
 i171:=by kernel_rfl
 i173:=by kernel_rfl
 i212:=by kernel_rfl
 i232:=by kernel_rfl
 i233:=by kernel_rfl
 m17:=by kernel_rfl
 m18:=by kernel_rfl
 m19:=by kernel_rfl }
open Go.RowKit Go.Sort Go.Lib in
theorem Tryz.internal_strconv_AppendUint_10_small (B n u:Nat) (hu:u < 100) (sv:Value) (xs:List Value) (w:World) (hown:w.ownsRow B 5 1 sv n xs) (hBw:B<=w.heap.size) (hlim:n + 20<=140737488355328) :
  Calls Tryz.prog 160 #[sv,.int .u64 u,.int .i64 10] w fun e w'=>∃ v',e=.returned v'/\w'.ownsRow B 5 1 v' (n + (Lib.decDigits u).length) (xs ++ Lib.byteCells (Lib.decDigits u))/\Below B w w'/\Lib.OthersKept 5 none w w':=Any.internal_strconv_AppendUint_10_small Tryz.yK B n u hu sv xs w hown hBw hlim
end Go.Proofs
namespace Go.Proofs.YthfepflplbahkaaGreatDoor
open Go.RowKit Lim
section
variable {u:Nat}{e:Ending}
theorem qG{n:Nat}(h:n < 256):(UInt8.ofNat n).toNat=n:=by simp[Nat.mod_eq_of_lt h]
theorem CH(u:Nat):fP ((Lib.decDigits u).map fun c=>(c.toNat:Int))/\dvI ((Lib.decDigits u).map fun c=>(c.toNat:Int))=u/\0 < (Lib.decDigits u).length/\(0 < u->nth ((Lib.decDigits u).map fun c=>(c.toNat:Int)) 0≠48):=by
 induction u using Nat.strongRecOn with
 | ind u ih =>
  by_cases h:u < 10
  ·rw[Lib.decDigits,dif_pos h]
   have e:(UInt8.ofNat (48 + u)).toNat=48 + u:=qG (by omega);simp only[List.map_cons,List.map_nil,e];refine⟨fun c hc => ?_,?_,by simp,fun h0 => ?_⟩
   ·rw[List.mem_singleton] at hc; omega
   ·simp[dvI]; omega
   ·rw[cO]; omega
  ·rw[Lib.decDigits,dif_neg h];obtain⟨i1,i2,i3,i4⟩:=ih (u / 10) (by omega)
   have e:(UInt8.ofNat (48 + u % 10)).toNat=48 + u % 10:=qG (by omega);simp only[List.map_append,List.map_cons,List.map_nil,e];refine⟨i1.snoc (by omega) (by omega),?_,by simp,fun _ => ?_⟩
   ·rw[l7,i2]; omega
   ·rw[db (by simpa using i3)]; exact i4 (by omega)
theorem me(l:List UInt8):Lib.byteCells l=(l.map fun c=>(c.toNat:Int)).map (Value.int .u8):=by
 simp[Lib.byteCells]
theorem xJ{wx w':World}(h0:0 < u)(h20:(Lib.decDigits u).length<=20)(h:∃ v',e=.returned v'/\w'.ownsRow wx.heap.size 5 1 v' (0 + (Lib.decDigits u).length) ([] ++ Lib.byteCells (Lib.decDigits u))/\Below wx.heap.size wx w'/\Lib.OthersKept 5 none wx w') :
  ∃ v d,e=.returned v/\fI w' wx.heap.size v d/\fP d/\dvI d=(u:Int)/\0 < d.length/\d.length<=20/\nth d 0≠48/\Below wx.heap.size wx w':=by
 obtain⟨v,rfl,h1,h2,_⟩:=h;obtain⟨d1,d2,d3,d4⟩:=CH u;refine⟨v,_,rfl,?_,d1,d2,by simpa using d3,by simpa using h20,d4 h0,h2⟩;unfold fI;rw[<- me,List.length_map];rw[Nat.zero_add,List.nil_append] at h1;exact h1
theorem dec20(h:u < 18446744073709551616):(Lib.decDigits u).length<=20:=by
 by_cases h0:u=0
 ·subst h0; rw[Lib.decDigits_one (by decide)]; simp
 ·have:=Lib.numDigits_eq u (by omega) h;rw[Lib.decDigits_length];split at this<;>omega
theorem wK(u:Nat)(h0:0 < u)(h1:u < 100)(wx:World):rB (u:Int) wx:=by
 unfold rB
 have hown:wx.ownsRow wx.heap.size 5 1 (.slice none 0 0) 0 []:=World.ownsRow_nil _ _ _ _;have t:=Tryz.internal_strconv_AppendUint_10_small wx.heap.size 0 u h1 (.slice none 0 0) [] wx hown (Nat.le_refl _) (by decide);go_enter Tryz.func102,Tryz.ntmps102;go_wp2_with fail;refine t.mono ?_
 intro e w' h;have hp:=xJ h0 (dec20 (by omega)) h;obtain⟨v,d,rfl,r⟩:=hp;go_wp2;go_ret;exact⟨v,d,rfl,r⟩
end
end Go.Proofs.YthfepflplbahkaaGreatDoor
namespace Go.Proofs.YthfepflplbahkaaGreatDoor
open Go.RowKit Lim
section
variable {k:Nat}{x:Int}
def dy:Nat->Int->List Int
 | 0,_=>[]
 | k + 1,x=>dy k (x / 10) ++ [48 + x % 10]
theorem dP(k:Nat)(x:Int):(dy k x).length=k:=by
 induction k generalizing x with
 | zero=>rfl
 | succ k ih=>simp[dy,ih]
theorem l3(h:0<=x):fP (dy k x):=by
 induction k generalizing x with
 | zero=>intro c hc; simp[dy] at hc
 | succ k ih=>exact(ih (by omega)).snoc (by omega) (by omega)
theorem qv(h:0<=x):dvI (dy k x)=x % 10 ^ k:=by
 induction k generalizing x with
 | zero=>simp[dy,dvI]
 | succ k ih =>
  rw[dy,l7,ih (by omega),Int.pow_succ]
  have hp:(0:Int) < 10 ^ k:=Int.pow_pos (by decide);have e1:=Int.mul_ediv_add_emod (x / 10) (10 ^ k);have e2:=Int.mul_ediv_add_emod x 10;have e3:=Int.emod_nonneg (x / 10) (show (10:Int) ^ k≠0 by omega);have e4:=Int.emod_lt_of_pos (x / 10) hp;generalize x / 10 % 10 ^ k=r at *;generalize hq:x / 10 / 10 ^ k=q at *;generalize (10:Int) ^ k=P at *
  have h5:x=(10 * r + x % 10) + (P * 10) * q:=by
   have:10 * (P * q + r) + x % 10=x:=by rw[e1]; omega
   rw[<- this]; rw[Int.mul_add]; have:10 * (P * q)=P * 10 * q:=by rw[<- Int.mul_assoc,Int.mul_comm 10 P]
   omega
  conv=>rhs; rw[h5]
  rw[Int.add_mul_emod_self_left,Int.emod_eq_of_lt (a:=10 * r + x % 10) (b:=P * 10) (by omega) (by omega)];omega
theorem mC(k m:Nat)(x:Int)(h:0<=x):dy (k + m) x=dy k (x / 10 ^ m) ++ dy m x:=by
 induction m generalizing x with
 | zero=>simp[dy]
 | succ m ih =>
  rw[Nat.add_succ,dy,ih _ (by omega),dy,List.append_assoc];congr 2
  rw[Int.pow_succ,Int.mul_comm,<- Int.ediv_ediv_of_nonneg (by decide)]
theorem xZ(k:Nat)(x:Int):dy (k + 2) x=dy k (x / 100) ++ [48 + x % 100 / 10,48 + x % 100 % 10]:=by
 rw[dy,dy,List.append_assoc]
 have e1:x / 10 / 10=x / 100:=by omega
 have e2:x / 10 % 10=x % 100 / 10:=by omega
 have e3:x % 10=x % 100 % 10:=by omega
 rw[e1,e2,e3]; rfl
end
end Go.Proofs.YthfepflplbahkaaGreatDoor
namespace Go.Proofs.YthfepflplbahkaaGreatDoor
open Go.RowKit Lim
section
variable {l:List Int}
theorem ix(h:fP l):0<=dvI l/\dvI l < 10 ^ l.length:=by
 induction l with
 | nil=>simp[dvI]
 | cons c l ih =>
  have hc:=h c (by simp);have:=ih fun x hx=>h x (by simp[hx])
  have e:dvI (c :: l)=(c - 48) * 10 ^ l.length + dvI l:=by rw[show c :: l=[c] ++ l from rfl,fO]; simp[dvI]
  have hp:(0:Int) < 10 ^ l.length:=Int.pow_pos (by decide)
  have h1:0<=(c - 48) * 10 ^ l.length:=Int.mul_nonneg (by omega) (Int.le_of_lt hp)
  have h2:(c - 48) * 10 ^ l.length<=9 * 10 ^ l.length:=Int.mul_le_mul_of_nonneg_right (by omega) (Int.le_of_lt hp);rw[e,List.length_cons,Int.pow_succ]; omega
theorem dvI_ge(h:fP l)(h0:0 < l.length)(h1:nth l 0≠48):10 ^ (l.length - 1)<=dvI l:=by
 cases l with
 | nil=>simp at h0
 | cons c l =>
  rw[cO] at h1;have hc:=h c (by simp);have hb:=ix (l:=l) fun x hx=>h x (by simp[hx])
  have e:dvI (c :: l)=(c - 48) * 10 ^ l.length + dvI l:=by rw[show c :: l=[c] ++ l from rfl,fO]; simp[dvI]
  have hp:(0:Int) < 10 ^ l.length:=Int.pow_pos (by decide);have:1 * 10 ^ l.length<=(c - 48) * 10 ^ l.length:=Int.mul_le_mul_of_nonneg_right (by omega) (Int.le_of_lt hp);rw[e,List.length_cons,Nat.add_sub_cancel]; omega
theorem qe:∀ {a b:List Int},fP a->fP b->a.length=b.length->dvI a=dvI b->a=b
 | [],[],_,_,_,_=>rfl
 | x :: a,y :: b,ha,hb,hl,hv=>by
  have ha':fP a:=fun z hz=>ha z (by simp[hz])
  have hb':fP b:=fun z hz=>hb z (by simp[hz])
  have hl':a.length=b.length:=by simpa using hl
  have h1:=ix ha';have h2:=ix hb'
  have e1:dvI (x :: a)=(x - 48) * 10 ^ b.length + dvI a:=by rw[show x :: a=[x] ++ a from rfl,fO,hl']; simp[dvI]
  have e2:dvI (y :: b)=(y - 48) * 10 ^ b.length + dvI b:=by rw[show y :: b=[y] ++ b from rfl,fO]; simp[dvI]
  rw[e1,e2] at hv;rw[hl'] at h1
  have hp:(0:Int) < 10 ^ b.length:=Int.pow_pos (by decide)
  have e:x=y:=by
   rcases Int.lt_trichotomy x y with c | c | c
   ·have:(x - 48 + 1) * 10 ^ b.length<=(y - 48) * 10 ^ b.length:=Int.mul_le_mul_of_nonneg_right (by omega) (Int.le_of_lt hp);rw[Int.add_mul] at this; omega
   ·exact c
   ·have:(y - 48 + 1) * 10 ^ b.length<=(x - 48) * 10 ^ b.length:=Int.mul_le_mul_of_nonneg_right (by omega) (Int.le_of_lt hp);rw[Int.add_mul] at this; omega
  subst e;rw[qe ha' hb' hl' (by omega)]
theorem r7{a b:List Int}(ha:fP a)(hb:fP b)(h0:0 < a.length)(h1:0 < b.length)(ka:a.length=1\/nth a 0≠48)(kb:b.length=1\/nth b 0≠48)(hv:dvI a=dvI b):a=b:=by
 apply qe ha hb _ hv
 have key:∀ {a b:List Int},fP a->fP b->0 < a.length->0 < b.length->(b.length=1\/nth b 0≠48)->dvI a=dvI b->¬ a.length < b.length:=by
  intro a b ha hb h0 h1 kb hv hlt;have h2:=(ix ha).2;rcases kb with e | e
  ·omega
  ·have h3:=dvI_ge hb h1 e;have:=yf (show a.length<=b.length - 1 by omega);omega
 have k1:=key ha hb h0 h1 kb hv;have k2:=key hb ha h1 h0 ka hv.symm;omega
theorem Be{S:ByteArray}{n:Int}(h:pE S n)(l:List UInt8)(hd:(l.map (fun c=>(c.toNat:Int))).all (fun c=>decide (48<=c/\c<=57))=true)(hv:dvI (l.map (fun c=>(c.toNat:Int)))=n)(h0:0 < l.length)(h1:l.length=1\/nth (l.map (fun c=>(c.toNat:Int))) 0≠48):S=⟨l.toArray⟩:=by
 obtain⟨d,e,hdd,hdv,hd0,hd1⟩:=h.bytes
 have hD:fP (l.map (fun c=>(c.toNat:Int))):=fun c hc=>by
  rw[List.all_eq_true] at hd; simpa using hd c hc
 have:=r7 hdd hD hd0 (by simpa using h0) hd1 (by simpa using h1) (hdv.trans hv.symm);rw[<- e] at this
 have h2:S.data.toList=l:=List.map_inj_right (fun a b hab=>UInt8.toNat_inj.1 (by omega)) |>.1 this
 cases S with
 | mk arr=>simp at h2; simp[<- h2]
end
end Go.Proofs.YthfepflplbahkaaGreatDoor
namespace Go.Proofs.YthfepflplbahkaaGreatDoor
open Go.RowKit Lim
section
variable {w w':World}{ao:Option Addr}{n c X g:Nat}{x:Int}{l d:List Int}{ops:Array Oper}{K:Act->World->Prop}
theorem nSmall(h:ee w ao n c x)(hn:n<=1099511627776)(hx:x < 18446744073709551616) :
  Calls Tryz.prog 110 #[.slice ao n c] w fun e w'=>e=.returned (.tuple #[.int .u64 x,.bool true])/\Below w.heap.size w w':=by
 obtain⟨b,o,l,h1,h2,h3,h4⟩:=h.ex
 have hnl:aJ l=n:=h3.2.1.trans h1
 have hn1:n<=1:=by
  rcases Nat.lt_or_ge 1 n with e | e
  ·have h5:=fH h3.1 (by omega);have h6:=il (show 1<=aJ l - 1 by omega);rw[h3.2.2] at h5
   have h7:(18446744073709551616:Int) ^ 1=18446744073709551616:=by decide
   omega
  ·exact e
 have t:=bG ao n c l w h1 h2 (by omega) h4.cells;rw[hnl] at t;have hv:=h3.2.2;rcases(show n=0\/n=1 by omega) with e | e
 ·subst e;obtain rfl:l=[]:=List.eq_nil_of_length_eq_zero h1
  have hx0:x=0:=by rw[<- hv]; rfl
  subst hx0;clear hv hnl;go_enter Tryz.func110,Tryz.ntmps110;go_wp2_with fail;refine t.mono ?_
  rintro e w' ⟨rfl,rfl⟩;go_wp2;go_ret2;exact⟨rfl,Below.refl _ _⟩
 ·subst e;obtain⟨y,rfl⟩:∃ y,l=[y]:=by
   match l,h1 with
   | [y],_=>exact⟨y,rfl⟩
  have hy:y=x:=by rw[<- hv]; simp[val]
  subst hy;have hc:=h4.cell 0 (by simp);obtain rfl:ao=some ⟨b,o,none⟩:=by
   rcases h4.loc with e | e
   ·simp at e
   ·exact e
  rw[cO,Nat.add_zero] at hc;clear hv hnl h4 h3;go_enter Tryz.func110,Tryz.ntmps110;go_wp2_with fail;refine t.mono ?_
  rintro e w' ⟨rfl,rfl⟩;go_wp2;go_ret2;exact⟨rfl,Below.refl _ _⟩
theorem Cq(i:Nat)(h:i < 100):∀ j v,[Value.int .u8 (48 + (i:Int) / 10),Value.int .u8 (48 + (i:Int) % 10)][j]? = some v->∀ (w:World) (gp:Nat),dG w gp 183 (cV 100)->w.cell? ((⟨gp,i * 2,none⟩:Addr).add j)=some v:=by
 intro j v hj w gp R;have hl:=cy 100;obtain⟨p0,p1⟩:=wP h
 match j,hj with
 | 0,hj =>
  simp at hj; subst hj;have:=R.cell (i:=2 * i) (by omega);rw[p0] at this;rw[<- this];exact congrArg w.cell? (by simp[Addr.add,Nat.mul_comm])
 | 1,hj =>
  simp at hj; subst hj;have:=R.cell (i:=2 * i + 1) (by omega);rw[p1] at this;rw[<- this];exact congrArg w.cell? (by simp[Addr.add,Nat.mul_comm])
 | j + 2,hj=>simp at hj
theorem Cg(g E:Nat)(h:E<=34)(W:World):(Instr.sliceAt 181 (.pointer (some ⟨g,0,none⟩)) (some (.int .i64 (E:Int))) none none).run Tryz.prog W=.ok (.slice (some ⟨g,E,none⟩) (36 - E) (36 - E)) W:=by
 have hal:Tryz.prog.arrayLen 181=36:=by kernel_rfl
 have hel:Tryz.prog.elem 181=5:=by kernel_rfl
 have hu:Tryz.prog.underlying 181=some (.array (Tryz.prog.arrayLen 181) (Tryz.prog.elem 181)):=by kernel_rfl
 have hs:(sizeOf 5).run Tryz.prog W=.ok 1 W:=by kernel_rfl
 rw[run_sliceAt_array_l W 181 ⟨g,0,none⟩ hu .i64 (E:Int) (by omega) (by rw[hal]; omega),hel,hs,hal];simp only[Result.andThen,slicedAt,Int.toNat_natCast,Nat.mul_one];rw[if_neg (by omega)];congr 3
 unfold Addr.add;split<;>simp_all
theorem slice2(g o:Nat)(W:World):(Instr.sliceAt 182 (.pointer (some ⟨g,o,none⟩)) none none none).run Tryz.prog W=.ok (.slice (some ⟨g,o,none⟩) 2 2) W:=by
 have hal:Tryz.prog.arrayLen 182=2:=by kernel_rfl
 have hel:Tryz.prog.elem 182=5:=by kernel_rfl
 have hu:Tryz.prog.underlying 182=some (.array (Tryz.prog.arrayLen 182) (Tryz.prog.elem 182)):=by kernel_rfl
 have hs:(sizeOf 5).run Tryz.prog W=.ok 1 W:=by kernel_rfl
 rw[run_sliceAt_array_all W 182 ⟨g,o,none⟩ hu,hel,hs,hal];simp[Result.andThen,slicedAt,Addr.add]
theorem Bq:(Tryz.prog.info? 5).map (·.size)=some 1:=by kernel_rfl
theorem sF{en k:Nat}(hl:l.length=36)(he:en<=36)(hk:2 * k + 2<=en) :
  splice ((l.take (en - 2 * k) ++ dy (2 * k) X ++ l.drop en).map (Value.int .u8)) (en - 2 * k - 2) [Value.int .u8 (48 + (((X / 100 ^ k % 100:Nat):Nat):Int) / 10),Value.int .u8 (48 + (((X / 100 ^ k % 100:Nat):Nat):Int) % 10)]
   = (l.take (en - 2 * (k + 1)) ++ dy (2 * (k + 1)) X ++ l.drop en).map (Value.int .u8):=by
 have hX:(0:Int)<=(X:Int):=by omega
 have e1:dy (2 * (k + 1)) (X:Int)=[48 + (((X / 100 ^ k % 100:Nat):Nat):Int) / 10,48 + (((X / 100 ^ k % 100:Nat):Nat):Int) % 10] ++ dy (2 * k) X:=by
  rw[show 2 * (k + 1)=2 + 2 * k by omega,mC 2 (2 * k) _ hX];congr 1
  rw[show (2:Nat)=0 + 2 from rfl,xZ]
  have e2:(X:Int) / 10 ^ (2 * k)=((X / 100 ^ k:Nat):Int):=by
   rw[Int.natCast_ediv];congr 1
   rw[Int.pow_mul];simp
  rw[e2];simp[dy]
 rw[e1]
 have hA:(l.take (en - 2 * k)).length=en - 2 * k:=by simp; omega
 unfold splice;simp only[List.map_append,List.append_assoc,List.map_cons,List.length_cons,List.length_nil,List.cons_append,List.nil_append];rw[List.take_append_of_le_length (by simp; omega),List.drop_append,List.drop_of_length_le (by simp; omega)];rw[<- List.map_take,List.take_take,Nat.min_eq_left (by omega),show en - 2 * k - 2=en - 2 * (k + 1) by omega];rw[List.length_map,hA,show en - 2 * (k + 1) + (0 + 1 + 1) - (en - 2 * k)=0 by omega];simp
theorem nA{P:Program}{o:Oper}{a:Act}{Q:Exit->Act->World->Prop}{E:Prop}(hgd:o.guard=none)(d s:Operand)(dT sT:TypeId)(ho:o.op=.call { callee:=.builtin .copy,args:=#[d,s],argTypes:=#[dT,sT] })(elem:TypeId)(hu:P.underlying dT=some (.slice elem))(hsz:(P.info? elem).map (·.size)=some 1)(g off dLen dCap:Nat)(ad:Addr)(sLen sCap:Nat)(hd:a.eval d=.slice (some ⟨g,off,none⟩) dLen dCap)(hs:a.eval s=.slice (some ad) sLen sCap)(cur:List Value)(t:TypeId)(hg:w.heap[g]? = some (.cells cur.toArray t (0,0)))(cs:List Value)(hn:cs.length=Nat.min sLen dLen)(hsrc:∀ j v,cs[j]? = some v->w.cell? (ad.add j)=some v)(hfit:off + cs.length<=cur.length)(h1:∀ v∈cs,v.oneCell'=true)(h:∀ w',Hid (w'.heap[g]? = some (.cells (splice cur off cs).toArray t (0,0)))->Hid (∀ b,b≠g->w'.heap[b]? = w.heap[b]?)->Hid (∀ B w0,B<=g->Below B w0 w->Below B w0 w')->K (a.put o.dst (goInt cs.length)) w') :
  if Region.wanted o (yielded ops a.tmps)=true then Oper.wp P o a w K Q else E:=by
 have hw:Region.wanted o (yielded ops a.tmps)=true:=by simp[Region.wanted,hgd]
 rw[if_pos hw];have hrun:=run_copy_row (P:=P) w dT sT o.type elem g off dLen dCap ad sLen sCap cur.toArray t cs hu hsz hg hn hsrc (by simpa using hfit) h1;unfold Oper.wp;simp[execOp,ho,resolve,invoke,builtin,hd,hs,hrun,Result.andThen];exact h _ (show _=_ by simpa[splice] using setRow_heap w g _ _ t _ hg) (fun b hb=>setRow_other w g b _ hb) (fun B w0 h1 h2=>below_setRow h2 h1 _)
theorem xM{gt gp:Nat}(en:Nat)(h:ee w ao n c (X:Int))(hn:n<=1099511627776)(hx:X < 1000000000000000000)(T:dG w gt 181 l)(hl:l.length=36)(hen:18<=en)(hen2:en<=36)(Tb:dG w gp 183 (cV 100))(hne:gt≠gp) :
  Calls Tryz.prog 109 #[.int .i64 en,.slice ao n c,.pointer (some ⟨gt,0,none⟩),.pointer (some ⟨gp,0,none⟩)] w fun e w'=>e=.returned (.tuple #[])/\dG w' gt 181 (l.take (en - 18) ++ dy 18 X ++ l.drop en)/\(∀ B w0,B<=gt->Below B w0 w->Below B w0 w')/\(∀ b,b < w.heap.size->b≠gt->w'.heap[b]? = w.heap[b]?):=by
 go_enter Tryz.func109,Tryz.ntmps109;go_wp2_with fail;refine(nSmall h hn (by omega)).mono ?_
 rintro e w1 ⟨rfl,hB⟩;have hlt:=T.lt;have T:=T.keep hB;have Tb:=Tb.keep hB
 have HK:Hid (∀ b,b < w.heap.size->b≠gt->w1.heap[b]? = w.heap[b]?):=fun b hb _=>hB.block b hb
 have HBB:Hid (∀ B w0,B<=gt->Below B w0 w->Below B w0 w1):=fun B w0 h1 h2=>h2.trans (hB.mono (by omega))
 clear h hB;go_wp2;go_loopw [0,6,13] (fun te tx tk wr=>∃ k:Nat,k<=9/\tk=.int .i64 k/\te=.int .i64 ((en - 2 * k:Nat):Int)/\tx=.int .u64 ((X / 100 ^ k:Nat):Int)/\dG wr gt 181 (l.take (en - 2 * k) ++ dy (2 * k) X ++ l.drop en)/\dG wr gp 183 (cV 100)/\(∀ B w0,B<=gt->Below B w0 w->Below B w0 wr)/\(∀ b,b < w.heap.size->b≠gt->wr.heap[b]? = w.heap[b]?)) (fun _ _ tk _=>9 - (intOf tk).toNat)
 case atStart=>exact⟨0,by omega,rfl,rfl,by simp,by simpa[dy] using T,Tb,HBB.out,HK.out⟩
 case round =>
  clear T Tb HK HBB;obtain⟨k,hk,rfl,rfl,rfl,T,Tb,HBB,HK⟩:=hrel;by_cases hlt9:k < 9
  ·have hs:=sF (X:=X) hl hen2 (show 2 * k + 2<=en by omega);have HS:=(show Hid _ from hs)
   have hlen:(l.take (en - 2 * k) ++ dy (2 * k) X ++ l.drop en).length=36:=by simp[dP]; omega
   have HBB:=(show Hid _ from HBB)
   have HK:=(show Hid _ from HK)
   have hdiv:X / 100 ^ k / 100=X / 100 ^ (k + 1):=by rw[Nat.div_div_eq_div_mul,Nat.pow_succ]
   have HD:=(show Hid _ from hdiv)
   have hYb:X / 100 ^ k < 1000000000000000000:=Nat.lt_of_le_of_lt (Nat.div_le_self _ _) hx;clear hs hdiv;generalize X / 100 ^ k=Y at *
   have hi:Y % 100 < 100:=Nat.mod_lt _ (by decide)
   have htm:(Y:Int).tmod 100=((Y % 100:Nat):Int):=by rw[Int.tmod_eq_emod_of_nonneg (by omega)]; omega
   generalize Y % 100=i at *
   have hi0:(i:Int) < 100:=by omega
   have hpa:=fun j v (hj:[Value.int .u8 (48 + (i:Int) / 10),Value.int .u8 (48 + (i:Int) % 10)][j]? = some v)=>Cq i hi j v hj
   have HPA:=(show Hid _ from hpa)
   clear hpa;obtain⟨E,hE⟩:∃ E,en - 2 * k=E + 2:=⟨en - 2 * k - 2,by omega⟩
   have hE36:E + 2<=36:=by omega
   have HE:=(show Hid _ from hE)
   rw[hE];clear hE;have hs36:=Cg gt E (by omega);have hs2:=slice2 gp (i * 2);go_wp2_with fail;go_region_law (refine nA rfl (.tmp 18) (.tmp 22) 96 96 rfl 5 cM Bq gt E (36 - E) (36 - E) ⟨gp,i * 2,none⟩ 2 2 (by rfl) (by rfl) _ 181 T.drew.blk [Value.int .u8 (48 + (i:Int) / 10),Value.int .u8 (48 + (i:Int) % 10)] (by show 2=Nat.min 2 (36 - E); exact(Nat.min_eq_left (by omega)).symm) (fun j v hj=>HPA.out j v hj _ gp Tb.drew) (by rw[List.length_map,hlen]; show E + 2<=36; omega) (by simp[Value.oneCell']) ?_; intro w4 hg4 ho4 hb4)
   have T4:dG w4 gt 181 (l.take (en - 2 * (k + 1)) ++ dy (2 * (k + 1)) X ++ l.drop en):=⟨by
    rw[<- HS.out,show en - 2 * k - 2=E by have:=HE.out; omega]; exact hg4.out⟩
   have Tb4:dG w4 gp 183 (cV 100):=⟨by rw[ho4.out gp (fun e=>hne e.symm)]; exact Tb.blk⟩
   have HT4:=(show Hid _ from T4)
   have HTb4:=(show Hid _ from Tb4)
   have htd:(Y:Int).tdiv 100=((Y / 100:Nat):Int):=by rw[Int.tdiv_eq_ediv_of_nonneg (by omega)]; omega
   have hY2b:Y / 100 < 1000000000000000000:=Nat.lt_of_le_of_lt (Nat.div_le_self _ _) hYb;generalize hY2:Y / 100=Y2 at *;have HY2:=(show Hid _ from hY2)
   clear hY2 T4 Tb4 T Tb hg4;go_wp2;go_roundw
   case rel=>exact⟨k + 1,by omega,by go_num,by rw[show en - 2 * (k + 1)=E by have:=HE.out; omega],by rw[<- HD.out],HT4.out,HTb4.out,fun B w0 h1 h2=>hb4.out B w0 h1 (HBB.out B w0 h1 h2).drew,fun b h1 h2=>(ho4.out b h2).trans (HK.out b h1 h2)⟩
   case measure=>simp[intOf]; omega
  ·have hk9:k=9:=by omega
   subst hk9;have HBB:=(show Hid _ from HBB)
   have HK:=(show Hid _ from HK)
   go_wp2;go_end0;exact⟨rfl,T,HBB.out,HK.out⟩
theorem ee.over{t:TypeId}(h:ee w ao n c x)(T:dG w g t l)(HK:∀ b,b < w.heap.size->b≠g->w'.heap[b]? = w.heap[b]?):ee w' ao n c x:=by
 obtain⟨b,o,m,h1,h2,h3,h4⟩:=h.ex;refine⟨b,o,m,h1,h2,h3,h4.loc,fun i hi => ?_⟩;have hc:=h4.cell i hi;have hb:=aK hc
 have hne:b≠g:=by
  intro e;subst e;have hbk:=T.blk;simp only[World.cell?,hbk] at hc;simp at hc
 rw[World.cell?_of_block (w:=w) (HK b hb hne)];exact hc
theorem dG.over{g':Nat}{t:TypeId}(h:dG w g' t l)(hne:g'≠g)(HK:∀ b,b < w.heap.size->b≠g->w'.heap[b]? = w.heap[b]?):dG w' g' t l:=⟨by rw[HK g' h.lt hne]; exact h.blk⟩
theorem tK(g:Nat)(W:World):(Instr.sliceAt 181 (.pointer (some ⟨g,0,none⟩)) none none none).run Tryz.prog W=.ok (.slice (some ⟨g,0,none⟩) 36 36) W:=by
 have hal:Tryz.prog.arrayLen 181=36:=by kernel_rfl
 have hel:Tryz.prog.elem 181=5:=by kernel_rfl
 have hu:Tryz.prog.underlying 181=some (.array (Tryz.prog.arrayLen 181) (Tryz.prog.elem 181)):=by kernel_rfl
 have hs:(sizeOf 5).run Tryz.prog W=.ok 1 W:=by kernel_rfl
 rw[run_sliceAt_array_all W 181 ⟨g,0,none⟩ hu,hel,hs,hal];simp[Result.andThen,slicedAt,Addr.add]
theorem ra{t:TypeId}(R:dG w g t d)(hl:d.length=36)(hD:fP d):∃ S:ByteArray,(convert 96 9 (.slice (some ⟨g,0,none⟩) 36 36)).run Tryz.prog w=Result.ok (.string S) w/\S.data.toList.map (fun c=>(c.toNat:Int))=d:=by
 have hload:=run_loadCells_list (P:=Tryz.prog) w ⟨g,0,none⟩ (d.map (Value.int .u8)) (fun j u hu=>by
  rw[List.getElem?_map] at hu
  have hj:j < d.length:=by
   rcases Nat.lt_or_ge j d.length with hj | hj
   ·exact hj
   ·rw[List.getElem?_eq_none hj] at hu; simp at hu
  rw[List.getElem?_eq_getElem hj] at hu;simp at hu;subst hu;have:=R.cell hj;rw[cn hj] at this;rw[<- this];by_cases hj0:j=0
  ·subst hj0; exact congrArg w.cell? (by simp[Addr.add])
  ·exact congrArg w.cell? (by simp[Addr.add,hj0]))
 rw[List.length_map,hl] at hload;have hconv:=(run_convert_bytes_string (P:=Tryz.prog) w 96 9 5 (some ⟨g,0,none⟩) 36 36 cM qV jR).trans (run_bytesToString w ⟨g,0,none⟩ 36 36 d hload);refine⟨_,hconv,?_⟩;rw[oy d ByteArray.empty];simp only[show ByteArray.empty.data.toList=[] from rfl,List.nil_append,List.map_map]
 conv=>rhs; rw[<- List.map_id d]
 apply List.map_congr_left;intro c hc;have:=hD c hc;simp[Function.comp,UInt8.toNat_ofNat'];omega
theorem Dd(h : aX w ao n c x)(hn : n ≤ 274877906944)(hx : x < U36) :
    Calls Tryz.prog 69 #[.agg #[.slice ao n c]] w fun e w' => ∃ S : ByteArray, e = .returned (.string S) ∧ S.data.toList.map (fun c => (c.toNat : Int)) = dy 36 x ∧ Below w.heap.size w w' := by
  have B0 := ql w (.cells #[.slice ao n c] 32) (.cells ((List.replicate 36 (0 : Int)).map (Value.int .u8)).toArray 181);have R0 := mz (w.alloc (.cells #[.slice ao n c] 32)) 181 (List.replicate 36 0);rw[show (w.alloc (.cells #[.slice ao n c] 32)).heap.size = w.heap.size + 1 by simp] at R0;have P0 := (eO w (.slice ao n c) 32).alloc (.cells ((List.replicate 36 (0 : Int)).map (Value.int .u8)).toArray 181);have h := h.keep B0;go_enter Tryz.func69, Tryz.ntmps69;go_wp2_with fail;change Calls _ _ _ ((w.alloc (.cells #[.slice ao n c] 32)).alloc (.cells ((List.replicate 36 (0 : Int)).map (Value.int .u8)).toArray 181)) _
  refine dPairs.mono ?_
  rintro e w1 ⟨rfl, hB⟩;have R0 := R0.keep hB;have P0 := P0.keep hB;have h := h.keep hB;have B0 := ah B0 hB;have hlt := R0.lt;clear hB
  have hnew : (w1.alloc (.cells Tryz.zeroCells183 183)).heap[w1.heap.size]? = some (.cells Tryz.zeroCells183 183 (0, 0)) := heap_alloc_new w1 _
  have hz0 : Tryz.zeroCells183.size = 200 := by kernel_rfl
  have hsz : ((cV 100).map (Value.int .u8)).toArray.size = 200 := by simp[cy]
  have BA := ae w1 (.cells Tryz.zeroCells183 183)
  have Tb : dG ((w1.alloc (.cells Tryz.zeroCells183 183)).setRow w1.heap.size ((cV 100).map (Value.int .u8)).toArray) w1.heap.size 183 (cV 100) := ⟨setRow_heap _ _ _ _ _ _ hnew⟩
  have BS : Below w1.heap.size w1 ((w1.alloc (.cells Tryz.zeroCells183 183)).setRow w1.heap.size ((cV 100).map (Value.int .u8)).toArray) := below_setRow BA (Nat.le_refl _) _;have R0 := R0.keep BS;have P0 := P0.keep BS;have h := h.keep BS;have B0 := ah B0 BS;have HN := (show Hid _ from hnew);have HZ := (show Hid _ from hz0);have HSZ := (show Hid _ from hsz);have HBS := (show Hid _ from BS.size);clear hnew hz0 hsz BA BS;generalize hW2 : (w1.alloc (.cells Tryz.zeroCells183 183)).setRow w1.heap.size ((cV 100).map (Value.int .u8)).toArray = w2 at *;have HW2 := (show Hid _ from hW2);clear hW2;go_wp2_with (refine wpList_store_row rfl 183 (.tmp 4) (.tmp 9) rfl w1.heap.size _ rfl rfl 183 _ HN.out (by rw[HSZ.out]; kernel_rfl) (by rw[HSZ.out, HZ.out]) (by simp[Value.oneCell']) ?_; rw[HW2.out]);obtain⟨X, hX⟩ : ∃ X : Nat, x = (X : Int) := ⟨x.toNat, by have := h.mh; omega⟩;subst hX
  have hX36 : X < 1000000000000000000000000000000000000 := by have : U36 = 1000000000000000000000000000000000000 := by decide
                                                              omega
  have HXS := (show Hid _ from mC 18 18 (X : Int) (by omega));have q0 := P0.cell;go_region_held3 (fun w' => w'.cell? ⟨w.heap.size, 0, none⟩ = some (.slice ao n c)) (first | exact(by assumption) | go_keep)
    (first
    | (go_at_call 111; refine(Ay 18 (by decide)).mono ?_; rintro e w3 ⟨a3, k3, d3, rfl, hO, hk3, hB⟩; have R0 := R0.drew.keep hB; have Tb := Tb.drew.keep hB; have P0 := P0.drew.keep hB; have q0 := P0.cell; have h := h.drew.keep hB; have B0 := ah B0.drew hB; clear hB)
    | (go_at_call 70; refine(nDiv h hO.a (by omega) (by omega) (by decide)).mono ?_; rintro e w4 ⟨a4, k4, d4, a5, k5, d5, rfl, hO4, hO5, hk4, hk5, hB⟩; have R0 := R0.keep hB; have Tb := Tb.keep hB; have P0 := P0.keep hB; have q0 := P0.cell; have B0 := ah B0 hB; clear hB h hO))
  all_goals (
    have hO4 := hO4.eqv (show (X : Int) / 10 ^ 18 = ((X / 1000000000000000000 : Nat) : Int) from by omega);have hO5 := hO5.eqv (show (X : Int) % 10 ^ 18 = ((X % 1000000000000000000 : Nat) : Int) from by omega)
    have hb1 : X / 1000000000000000000 < 1000000000000000000 := by omega
    have hb2 : X % 1000000000000000000 < 1000000000000000000 := by omega
    have HE1 : Hid ((X : Int) / 10 ^ 18 = ((X / 1000000000000000000 : Nat) : Int)) := by show _ = _; omega
    have HE2 : Hid (dy 18 (X : Int) = dy 18 ((X % 1000000000000000000 : Nat) : Int)) := by
      show _ = _
      apply qe (l3 (by omega)) (l3 (by omega)) (by simp[dP]);rw[qv (by omega), qv (by omega)];omega
    generalize X / 1000000000000000000 = X1 at *;generalize X % 1000000000000000000 = X2 at *
    have hgne : w.heap.size + 1 ≠ w1.heap.size := by omega
    have tW1 := xM 18 hO4 (by omega) hb1 R0 (by simp) (by decide) (by decide) Tb hgne;go_wp2_with fail;refine tW1.mono ?_
    rintro e w5 ⟨rfl, T5, HB5, HK5⟩;have hO5 := hO5.over R0 HK5;have Tb := Tb.over (fun e => hgne e.symm) HK5;have B5 := HB5 w.heap.size w (by omega) B0;clear tW1 R0 P0 q0 HB5 HK5 hO4 B0;have tW2 := xM 36 hO5 (by omega) hb2 T5 (by simp[dP]) (by decide) (by decide) Tb hgne;go_wp2_with fail;refine tW2.mono ?_
    rintro e w6 ⟨rfl, T6, HB6, HK6⟩;have B6 := HB6 w.heap.size w (by omega) B5;clear tW2 hO5 Tb HB6 HK6 T5 B5)
  all_goals (
    have hL : (List.take (36 - 18) (List.take (18 - 18) (List.replicate 36 (0 : Int)) ++ dy 18 (X1 : Int) ++ List.drop 18 (List.replicate 36 0)) ++ dy 18 (X2 : Int) ++ List.drop 36 (List.take (18 - 18) (List.replicate 36 (0 : Int)) ++ dy 18 (X1 : Int) ++ List.drop 18 (List.replicate 36 0))) = dy 36 (X : Int) := by
      rw[HXS.out, HE1.out, HE2.out]
      have l1 : (dy 18 (X1 : Int)).length = 18 := dP _ _;rw[List.take_append_of_le_length (by simp[l1]), List.drop_of_length_le (l := List.take (18 - 18) (List.replicate 36 (0 : Int)) ++ dy 18 (X1 : Int) ++ List.drop 18 (List.replicate 36 0)) (by simp[l1])];rw[show List.take (18 - 18) (List.replicate 36 (0 : Int)) = [] from rfl, List.nil_append, List.take_of_length_le (by omega), List.append_nil]
    rw[hL] at T6;obtain⟨S, hS1, hS2⟩:= ra T6 (dP 36 _) (l3 (by omega));have hs36 := tK (w.heap.size + 1) w6;clear hL T6;go_wp2;go_ret;exact⟨S, rfl, hS2, B6⟩)
end
end Go.Proofs.YthfepflplbahkaaGreatDoor
namespace Go.Proofs.YthfepflplbahkaaGreatDoor
open Go.RowKit Lim
end Go.Proofs.YthfepflplbahkaaGreatDoor
namespace Go.Proofs.YthfepflplbahkaaGreatDoor
open Go.RowKit Lim
end Go.Proofs.YthfepflplbahkaaGreatDoor
namespace Go.Proofs.YthfepflplbahkaaGreatDoor
open Go.RowKit Lim
end Go.Proofs.YthfepflplbahkaaGreatDoor
namespace Go.Proofs.YthfepflplbahkaaGreatDoor
open Go.RowKit Lim
section
variable {w:World}{x:Int}{ao:Option Addr}{n c:Nat}
def rU(r:Int):List UInt8:=(dy 36 r).map fun c=>UInt8.ofNat c.toNat
def uQ(r:Int):List UInt8:=if r=0 then [] else 46 :: Lib.trimRightB (rU r) 48
structure AB(S:ByteArray)(x:Int):Prop where
 ex:∃ Sw:ByteArray,pE Sw (x / U36)/\S.data.toList=Sw.data.toList ++ uQ (x % U36)
theorem Cj{S:ByteArray}{r:Int}(h:S.data.toList.map (fun c=>(c.toNat:Int))=dy 36 r):S.data.toList=rU r:=by
 unfold rU;rw[<- h,List.map_map]
 conv=>lhs; rw[<- List.map_id S.data.toList]
 apply List.map_congr_left;intro c _;simp[Function.comp]
def kL(w:World)(x:Int):Prop:=∀ g,fS g->ey g=x->g≠[]->0 < nth g (g.length - 1)->∀ wx,Below w.heap.size w wx->rB (nth g (g.length - 1)) wx
theorem kL.keep{w':World}(h:kL w x)(hb:Below w.heap.size w w'):kL w' x:=fun g h1 h2 h3 h4 wx hx=>h g h1 h2 h3 h4 wx (ah hb hx)
theorem xW(l:List UInt8)(c:UInt8):(Lib.trimRightB l c).length<=l.length:=by
 unfold Lib.trimRightB;rw[List.length_reverse];have:=(List.dropWhile_sublist (fun x=>x == c) (l:=l.reverse)).length_le;rwa [List.length_reverse] at this
theorem rp(r:Int):(rU r).length=36:=by unfold rU; rw[List.length_map,dP]
theorem nText(h:aX w ao n c x)(hn:n<=4294967296)(hA:kL w x) :
  Calls Tryz.prog 67 #[.slice ao n c] w fun e w'=>∃ s,e=.returned (.string s)/\pE s x/\s.size<=40 * n + 40/\Below w.heap.size w w':=by
 obtain⟨b,o,l,h1,h2,h3,h4,rfl⟩:=h.ex;exact Ao ao n c b o l w h1 h2 hn h3 h4 hA
theorem yk(h:aX w ao n c x)(hn:n<=4294967000)(hA:kL w (x / U36)) :
  Calls Tryz.prog 35 #[.agg #[.slice ao n c]] w fun e w'=>∃ S:ByteArray,e=.returned (.string S)/\AB S x/\S.size<=40 * n + 100/\Below w.heap.size w w':=by
 have B0:=ae w (.cells #[.slice ao n c] 32);have P0:=eO w (.slice ao n c) 32;have h:=h.keep B0;have hA:=hA.keep B0;have q0:=P0.cell;go_enter Tryz.func35,Tryz.ntmps35;have hx0:=h.mh;have hup:=py
 have hr0:0<=x % U36:=Int.emod_nonneg _ (by omega)
 have hr1:x % U36 < U36:=Int.emod_lt_of_pos _ hup;go_wp2_with fail;refine(dTrunc h (by omega)).mono ?_
 rintro e w1 ⟨a1,k1,d1,a2,k2,d2,rfl,hO1,hO2,hk1,hk2,hB⟩;have B0:=ah B0 hB;have hA:=hA.keep hB;clear hB h P0 q0;have BA:=ae w1 (.cells #[.slice a2 k2 d2] 32);have SL:=eO w1 (.slice a2 k2 d2) 32;have hO1:=hO1.keep BA;have hO2:=hO2.keep BA;have hA:=hA.keep BA;have B0:=ah B0 BA;have tT:=nText hO1.a (by omega) hA;clear BA hA;go_wp2_with fail;refine tT.mono ?_
 rintro e w2 ⟨Sw,rfl,hSw,hSz,hB⟩;have hO2:=hO2.keep hB;have SL:=SL.keep hB;have B0:=ah B0 hB;have cL:=SL.cell;clear hB tT hO1;have tZ:=DP hO2.a (by omega);generalize w1.heap.size=gL at *;by_cases hz:x % U36=0
 ·rw[decide_eq_true hz] at tZ;have HZ:=(show Hid _ from hz)
  clear hz;go_wp2_with fail;refine tZ.mono ?_
  rintro e w3 ⟨rfl,hB⟩;go_wp2;go_ret;exact⟨Sw,rfl,⟨Sw,hSw,by rw[HZ.out]; simp[uQ]⟩,by omega,ah B0 hB⟩
 ·rw[decide_eq_false hz] at tZ;have HZ:=(show Hid _ from hz)
  clear hz;go_wp2_with fail;refine tZ.mono ?_
  rintro e w3 ⟨rfl,hB⟩;have hO2:=hO2.keep hB;have SL:=SL.keep hB;have B0:=ah B0 hB;have cL:=SL.cell;clear hB tZ;go_wp2_with fail;refine(Dd hO2.a (by omega) hr1).mono ?_
  rintro e w4 ⟨S,rfl,hS,hB⟩;have hS36:=Cj hS
  have hsz:S.size=36:=by
   have:(S.data.toList.map (fun c=>(c.toNat:Int))).length=36:=by rw[hS,dP]
   simpa using this
  have B0:=ah B0 hB;clear hB hS;have tR:=Tryz.strings_TrimRight_one S 48 (by decide) w4 (by omega);rw[hS36] at tR;generalize hR:(⟨(Lib.trimRightB (rU (x % U36)) 48).toArray⟩:ByteArray)=R at tR
  have hRs:R.size<=36:=by
   have h1:=xW (rU (x % U36)) 48;rw[rp] at h1;rw[<- hR];simpa[ByteArray.size] using h1
  have HR:=(show Hid _ from hR)
  clear hS36 hR;go_wp2_with fail;refine tR.mono ?_
  rintro e w5 ⟨rfl,rfl⟩;go_wp2_with fail;go_ret;refine⟨_,rfl,⟨Sw,hSw,?_⟩,?_,B0⟩
  ·rw[uQ,if_neg HZ.out,<- HR.out];simp
  ·show (Sw ++ (⟨#[46]⟩:ByteArray) ++ R).size<=_
   rw[ByteArray.size_append,ByteArray.size_append];have:(⟨#[46]⟩:ByteArray).size=1:=rfl;omega
end
end Go.Proofs.YthfepflplbahkaaGreatDoor
