import Derived.Test.YtjejmkcjflhoiaaGreatDoorJak
import Derived.Test.YtjejmkcjflhoiaaGreatDoorJaa
set_option maxRecDepth 100000
set_option maxHeartbeats 8000000
namespace Go.Proofs.YtjejmkcjflhoiaaGreatDoor
section
namespace Ky
open Kv (fS)
open Go.RowKit Go.Lib Pg
attribute [local go_sem] Oper.semAt_some
section
variable {k a b m0 m1 c d:Int}
def plk(k:Int)(n:Nat):Nat:=(if Int.tmod k n < 0 then Int.tmod k n+n else Int.tmod k n).toNat
theorem plk_lt(k:Int){n:Nat}(hn:0 < n):plk k n < n:=by
 have b1:=Int.lt_tmod_of_pos k (show (0:Int) < n by omega);have b2:=Int.tmod_lt_of_pos k (show (0:Int) < n by omega);unfold plk;split<;>omega
theorem xq(k:Int)(n:Nat)(hn:0 < n)(g:n<=2147483648)(w:World) :
  Calls Tryz.prog 25 #[.int .i64 k,.int .i64 n] w fun e w'=>e=.returned (.int .i64 (plk k n:Nat))/\w'=w:=by
 have h0:¬ ((n:Int)=0):=by omega
 have j:¬ ((n:Int)=-1):=by omega
 have c:=Int.lt_tmod_of_pos k (show (0:Int) < n by omega);have f:=Int.tmod_lt_of_pos k (show (0:Int) < n by omega);unfold plk;obtain⟨r,d⟩:∃ r,Int.tmod k n=r:=⟨_,rfl⟩
 rw[d] at c f ⊢
 have i:-2147483648<=r/\r<=2147483648:=by omega
 by_cases b:r < 0
 ·rw[if_pos b,Int.toNat_of_nonneg (by omega)];go_enter Tryz.func25,Tryz.ntmps25;go_wp2;go_ret;exact⟨rfl,rfl⟩
 ·rw[if_neg b,Int.toNat_of_nonneg (by omega)];go_enter Tryz.func25,Tryz.ntmps25;go_wp2;go_ret;exact⟨rfl,rfl⟩
theorem eight(l:List Int)(h:l.length=8):∃ a b c d e f g i,l=[a,b,c,d,e,f,g,i]:=by
 match l,h with
 | [a,b,c,d,e,f,g,i],_=>exact⟨a,b,c,d,e,f,g,i,rfl⟩
theorem mk_eq{n:Int}(hf:frm k=(n,m0,m1)):mk k a b=[m0] ++ (if 8 < n then be 8 (tn k a) else []) ++ (if m1=0 then [] else [m1]) ++ (if 16 < n then be 8 b else []):=by
 unfold mk mkb;rw[hf]
theorem vM{n:Int}(hf:frm k=(n,m0,m1))(hn:n≠0):mkE k a b=false<->(n<=8->a=0)/\(n<=16->b=0):=by
 unfold mkE;rw[hf];simp[hn];constructor
 ·rintro⟨d,c⟩;constructor
  ·intro h;by_cases e:a=0
   ·exact e
   ·have:=d e;omega
  ·intro h;by_cases e:b=0
   ·exact e
   ·have:=c e;omega
 ·rintro⟨d,c⟩;constructor
  ·intro e;by_cases h:n<=8
   ·exact absurd (d h) e
   ·omega
  ·intro e;by_cases h:n<=16
   ·exact absurd (c h) e
   ·omega
theorem rH:∀ k:Nat,k < 18->0 < k->((frm k).1=1/\(frm k).2.2=0)\/((frm k).1=9/\(frm k).2.2=0)\/((frm k).1=10/\(frm k).2.2≠0)\/((frm k).1=17/\(frm k).2.2=0)\/((frm k).1=18/\(frm k).2.2≠0):=by decide +kernel
theorem Eh:∀ k:Nat,k < 18->0 < k->(k=10->(frm k).1=17):=by decide +kernel
theorem tn_tn:tn k (tn k a)=a:=by
 unfold tn;split<;>omega
theorem j7(h:0<=a/\a < 18446744073709551616):0<=tn k a/\tn k a < 256 ^ 8:=by
 rw[show (256:Int) ^ 8=18446744073709551616 by decide];unfold tn;split<;>omega
theorem bv8(h:0<=a/\a < 18446744073709551616):bv (be 8 a)=a:=A9 8 h.1 (by rw[show (256:Int) ^ 8=18446744073709551616 by decide];exact h.2)
theorem bv8t(h:0<=a/\a < 18446744073709551616):tn k (bv (be 8 (tn k a)))=a:=by
 rw[A9 8 (j7 h).1 (j7 h).2,tn_tn]
theorem mn{k:Nat}(c:k < 18)(h0:0 < k)(e:0≤a∧a < 18446744073709551616)(hb:0≤b∧b < 18446744073709551616)(d:mkE k a b=false) :
    frm k=fIn (mk k a b)∧rdA k (mk k a b)=a∧rdB (mk k a b)=b:=by
  obtain⟨⟨n, m0, m1⟩, hf⟩ : ∃ f, frm k = f := ⟨_, rfl⟩;have hF := rH k c h0;rw[hf] at hF;simp only at hF;have e1 := bv8t (k := k) e;have e2 := bv8 hb;obtain⟨g, v, r, j, i, t, w, l, hx⟩:= eight (be 8 (tn k a)) (aT _ _);obtain⟨u, m, y, o, s, p, q, h, hy⟩:= eight (be 8 b) (aT _ _);rw[hx] at e1;rw[hy] at e2;rcases hF with⟨rfl, rfl⟩ | ⟨rfl, rfl⟩ | ⟨rfl, h1⟩ | ⟨rfl, rfl⟩ | ⟨rfl, h1⟩ <;>
    (obtain⟨hA, x⟩:= (vM hf (by decide)).1 d
     rw[mk_eq hf,hf,hx,hy]
     simp_all [fIn,rdA,rdB])
theorem mk_inj{k o:Nat}(i:k < 18)(h0:0 < k)(j:o < 18)(n:0 < o)(p:0<=a/\a < 18446744073709551616)(hb:0<=b/\b < 18446744073709551616)(hc:0<=c/\c < 18446744073709551616)(hd:0<=d/\d < 18446744073709551616)(l:mkE k a b=false)(f:mkE o c d=false)(h:mk k a b=mk o c d):k=o/\a=c/\b=d:=by
 obtain⟨f1,a1,g⟩:=mn i h0 p hb l;obtain⟨f2,a2,m⟩:=mn j n hc hd f
 have e:k=o:=xj k i o j (by rw[f1,f2,h]);subst e;rw[h] at a1 g;exact⟨rfl,by rw[<- a1,a2],by rw[<- g,m]⟩
theorem Cx(ha:0<=a/\a < 256 ^ 8)(hb:0<=b/\b < 256 ^ 8):Lt (be 8 a) (be 8 b)<->a < b:=tH 8 ha.1 ha.2 hb.1 hb.2
theorem be8_eq(ha:0<=a/\a < 256 ^ 8)(hb:0<=b/\b < 256 ^ 8):be 8 a=be 8 b<->a=b:=⟨be_inj ha.1 ha.2 hb.1 hb.2,fun h=>by rw[h]⟩
theorem lK{a:List Int}:¬ Lt a a:=lt_irrefl a
theorem Fa{k:Nat}(r:k < 18)(h0:0 < k)(w:0≤a∧a < 18446744073709551616)(hb:0≤b∧b < 18446744073709551616)(hc:0≤c∧c < 18446744073709551616)(hd:0≤d∧d < 18446744073709551616)(x:mkE k a b=false)(l:mkE k c d=false) :
    Lt (mk k a b) (mk k c d) ↔ (if k=10 then c < a else a < c)∨(a=c∧b < d):=by
  obtain⟨⟨n,m0,m1⟩,hf⟩:∃ f,frm k=f:=⟨_,rfl⟩;have hF:=rH k r h0;have s:=Eh k r h0;rw[hf] at hF s;simp only at hF s;have q:=j7 (k:=k) w;have t:=j7 (k:=k) hc
  have u:(256:Int) ^ 8=18446744073709551616:=by decide
  have e:=Cx q t;have v:=be8_eq q t;have o:=Cx (a:=b) (b:=d) (by rw[u];exact hb) (by rw[u];exact hd)
  have g : tn k a < tn k c ↔ if k = 10 then c < a else a < c := by
    unfold tn;by_cases h:k=10
    · subst h;simp
    · rw[if_neg (by omega),if_neg (by omega),if_neg h]
  have p:tn k a=tn k c ↔ a=c:=by
    unfold tn;split <;> omega
  have j:(be 8 (tn k a)).length=(be 8 (tn k c)).length:=by rw[aT,aT]
  rcases hF with⟨rfl, rfl⟩ | ⟨rfl, rfl⟩ | ⟨rfl, h1⟩ | ⟨rfl, rfl⟩ | ⟨rfl, h1⟩ <;>
    (obtain⟨hA, m⟩:= (vM hf (by decide)).1 x
     obtain⟨hC,i⟩:= (vM hf (by decide)).1 l
     rw[mk_eq hf,mk_eq hf])
  · have:=hA (by decide);have:=m (by decide);have:=hC (by decide);have:=i (by decide)
    subst_vars
    simp[lK]
  · have:=m (by decide);have:=i (by decide)
    subst_vars
    simp only[if_pos (show (8:Int) < 9 by decide),if_neg (show ¬ (16:Int) < 9 by decide),if_true,List.append_nil];rw[fS,e,g];simp
  · have:=m (by decide);have:=i (by decide)
    subst_vars
    simp only[if_pos (show (8:Int) < 10 by decide),if_neg (show ¬ (16:Int) < 10 by decide),if_neg h1,List.append_nil];rw[List.append_assoc,List.append_assoc,fS,fU j,e,g];simp[lK]
  · simp only[if_pos (show (8:Int) < 17 by decide),if_pos (show (16:Int) < 17 by decide),if_true,List.append_nil]
    simp only[List.append_assoc];rw[fS,fU j,e,g,v,p,o]
  · simp only[if_pos (show (8:Int) < 18 by decide),if_pos (show (16:Int) < 18 by decide),if_neg h1]
    simp only[List.append_assoc];rw[fS,fU j,fS,e,g,v,p,o]
theorem lx(k a b:Int):(mk k a b).length<=18:=by
 unfold mk;rw[List.length_append];have:=mC (frm k) (tn k a);split
 ·rw[aT];omega
 ·simp;omega
end
end Ky
end
section
open Go.RowKit Lim
section
variable {ops:Array Oper} {Q:Exit->Act->World->Prop} {S:World->Prop} {fuel:Nat} {listed:Array Bool} {a:Act} {w:World}
theorem bZ {i:Nat} (h:i < ops.size):ops[i]?=some (ops.getD i default):=by
 simp[Array.getD,h]
theorem bQ (hr:Region.ready .any ops listed=[]) (h:Q .normal a w):wpAnyH Tryz.prog .any ops Q S fuel listed a w:=wpAnyH_done hr h fuel
end
end
section
open Pg (iq bH)
open Go.RowKit Lim
section
variable {w w':World}{g:Nat}{cs ds:List Value}
structure Box(w:World)(g:Nat)(cs:List Value)(t:TypeId):Prop where
 blk:w.heap[g]?=some (.cells cs.toArray t (0,0))
theorem Box.lt{t:TypeId}(h:Box w g cs t):g < w.heap.size:=lt_of_block h.blk
theorem Box.keep{t:TypeId}(h:Box w g cs t)(hb:Below w.heap.size w w'):Box w' g cs t:=⟨by rw[hb.block g h.lt];exact h.blk⟩
theorem Box.drew{t:TypeId}(h:Box w g cs t):Box w.drew g cs t:=⟨h.blk⟩
theorem ji(w:World)(cs:List Value)(t:TypeId):Box (w.alloc (.cells cs.toArray t)) w.heap.size cs t:=⟨by
 show (w.heap.push _)[w.heap.size]?=_
 rw[Array.getElem?_push_size]⟩
theorem Box.row{t:TypeId}(h:Box w g cs t):Box (w.setRow g ds.toArray) g ds t:=⟨by rw[setRow_heap w g _ _ _ _ h.blk]⟩
theorem oU{B:Nat}(h:Below B w w')(hB:B<=g)(ds:Array Value):Below B w (w'.setRow g ds) :=
 h.trans ⟨rfl,rfl,rfl,by simp[World.setRow],fun k hk=>setRow_other w' g k ds (by omega)⟩
theorem Box.off{g':Nat}{t:TypeId}(h:Box w g cs t)(hne:g≠g')(hw:∀ k,k≠g'->w'.heap[k]?=w.heap[k]?):Box w' g cs t:=⟨by rw[hw g hne];exact h.blk⟩
end
section
variable {ops:Array Oper} {Q:Exit->Act->World->Prop} {S:World->Prop} {fuel:Nat} {listed:Array Bool} {a:Act} {w:World}
theorem bj:AllReadyH Tryz.prog .any ops Q S fuel listed a w []:=AllReadyH.nil
theorem tw {rs:List Nat} (i:Nat) (d:Option Tmp) (T:TypeId) (cs:List Value) (hc:iq ops a i d=true) (hrun:(execOp a.eval (ops.getD i default)).run Tryz.prog w=.ok (.value (.pointer (some ⟨w.heap.size,0,none⟩))) (w.alloc (.cells cs.toArray T)))
  (c:∀ V,Box V w.heap.size cs T->Below w.heap.size w V->S V/\wpAnyH Tryz.prog .any ops Q S fuel (listed.setIfInBounds i true) (a.put d (.pointer (some ⟨w.heap.size,0,none⟩))) V)
  (hs:AllReadyH Tryz.prog .any ops Q S fuel listed a w rs):AllReadyH Tryz.prog .any ops Q S fuel listed a w (i :: rs):=by
 obtain⟨e,b⟩:=c _ (ji w cs T) (ae w _);exact bH i d _ _ hc hrun e b hs
end
end
section
open Go.RowKit Lim
section
variable {w:World}{g m:Nat}{l r:List Int}{ops:Array Oper}{rest:List Oper}{V:Int}{ao:Option Addr}
theorem mu:(Tryz.prog.info? 5).map (fun i=>(i.zero,i.size,i.bytes))=some (some (.int .u8 0),1,1):=by kernel_rfl
theorem cY:Tryz.prog.underlying 87=some (.slice 5):=by kernel_rfl
def vK(w:World)(g:Nat)(l:List Int):Prop:=w.heap[g]?=some (.cells (l.map (Value.int .u8)).toArray 5 (0,0))
theorem vK.at(h:vK w g l):AtB w (some ⟨g,0,none⟩) g 0 l :=
 ⟨.inr rfl,fun i hi=>by
  unfold vK at h;simp only[World.cell?,h]
  simp[cn hi,hi]⟩
theorem vK.free(h:vK w g l)(o n:Nat):dO w g o n:=by
 intro i _;unfold vK at h;simp[World.frozen?,h]
theorem wU(n:Nat):madeCells (Value.int .u8 0).cells n=((List.replicate n 0).map (Value.int .u8)).toArray:=by
 apply Array.ext
 ·simp[size_madeCells]
 ·intro j b a;simp[madeCells,Value.cells,Nat.mod_one]
theorem p9{o:Oper}{a:Act}{Q:Exit->Act->World->Prop}(f:o.guard=none)(l c:Operand)(d:o.op=Op.makeSlice 87 l c)(n:Nat)(L C:Int)(j:a.eval l=.int .i64 L)(hc:a.eval c=.int .i64 C)(hL:L=(n:Int))(hC:C=(n:Int))(hn:n<=17592186044416)(g:∀ w',vK w' w.heap.size (List.replicate n 0)->Below w.heap.size w w'->w'.heap.size=w.heap.size+1->wpList Tryz.prog ops Q rest (a.put o.dst (.slice (some ⟨w.heap.size,0,none⟩) n n)) w') :
  wpList Tryz.prog ops Q (o :: rest) a w:=by
 obtain⟨i,hi,h,hs,hb⟩:=info_parts mu;refine wpList_plain f fun K e=>?_
 have b:=run_make (P:=Tryz.prog) w 87 5 i (.int .u8 0) cY hi h .i64 .i64 (n:Int) (n:Int) (by omega) (by omega) (by rw[hb];omega) (by omega);subst hL;subst hC;unfold Oper.wp;simp only[execOp,d,j,hc];simp[b,Result.andThen];refine e _ _ (g _ ?_ ?_ ?_)
 ·show (w.heap.push _)[w.heap.size]?=_
  rw[Array.getElem?_push_size,hs,Nat.mul_one,wU]
 ·exact(Below.refl _ _).alloc (Nat.le_refl _) _
 ·simp
theorem nD(V:Int)(d:0<=V)(k:Nat):V % 256 ^ (k+1)=(V / 256 ^ k % 256) * 256 ^ k+V % 256 ^ k:=by
 obtain⟨v,rfl⟩:=Int.eq_ofNat_of_zero_le d
 have e:∀ j:Nat,(256:Int) ^ j=((256 ^ j:Nat):Int):=fun j=>by rw[Int.natCast_pow];rfl
 rw[e,e];have:=Nat.mod_mul (x:=v) (a:=256 ^ k) (b:=256);rw[<- Nat.pow_succ] at this
 have c:((v % 256 ^ (k+1):Nat):Int)=((v % 256 ^ k+256 ^ k * (v / 256 ^ k % 256):Nat):Int):=by rw[this]
 rw[Int.natCast_add,Int.natCast_mul] at c;simp only[Int.natCast_emod,Int.natCast_ediv] at c;rw[c,Int.add_comm,Int.mul_comm];rfl
theorem lJ(a:0<=V)(h:∀ i,i < r.length->nth r (r.length - 1 - i)=V / 256 ^ i % 256):∀ k,k<=r.length->bW (r.drop (r.length - k))=V % 256 ^ k
 | 0,_=>by rw[Nat.sub_zero,List.drop_length];simp[bW]
 | k + 1,hk=>by
  have ih:=lJ a h k (by omega);rw[show r.length - (k+1)=r.length - 1 - k from by omega,pJ (by omega),show r.length - 1 - k+1=r.length - k from by omega,ih,h k (by omega),show r.length - 1 - (r.length - 1 - k)=k from by omega,nD V a k]
theorem byte_at(wl:Words l)(i:Nat)(hi:i / 8 < l.length):nth l (i / 8) / 2 ^ (8 * (i % 8)) % 256=val l / 256 ^ i % 256:=by
 have e2:=bO l (i / 8) (by omega);rw[List.drop_eq_getElem_cons hi,val,<- cn hi] at e2;have b:=aP (wl.take (i / 8));have a:=dP (wl.take (i / 8));rw[List.length_take,Nat.min_eq_left (by omega)] at a;have c:=pow_pos (i / 8)
 have hS:(0:Int) < 2 ^ (8 * (i % 8)):=Int.pow_pos (by decide)
 have d:(18446744073709551616:Int)=2 ^ (8 * (i % 8)) * (256 * 2 ^ (56 - 8 * (i % 8))):=by
  rw[show (256:Int)=2 ^ 8 from rfl,<- Int.pow_add,<- Int.pow_add,show 8 * (i % 8)+(8+(56 - 8 * (i % 8)))=64 from by omega];rfl
 rw[kM,<- Int.ediv_ediv_of_nonneg (Int.le_of_lt c),e2,Int.add_mul_ediv_left _ _ (by omega),Int.ediv_eq_zero_of_lt b a,Int.zero_add];generalize nth l (i / 8)=x at *;generalize val (l.drop (i / 8+1))=y at *
 conv=>rhs;rw[d]
 rw[Int.mul_assoc,Int.add_mul_ediv_left _ _ (by omega),Int.mul_assoc,Int.add_mul_emod_self_left]
structure mZ(V:Int)(m k:Nat)(r:List Int):Prop where
 len:r.length=m
 oct:bG r
 dig:∀ i,i < k->nth r (m - 1 - i)=V / 256 ^ i % 256
theorem mZ.step{k:Nat}{x:Int}(h:mZ V m k r)(b:k < m)(hx:x=V / 256 ^ k % 256):mZ V m (k+1) (r.set (m - 1 - k) x):=by
 have a:=h.len;refine⟨by simp[a],fun y hy=>?_,fun i hi=>?_⟩
 ·rcases List.mem_or_eq_of_mem_set hy with e | e
  ·exact h.oct y e
  ·subst e;rw[hx];exact⟨Int.emod_nonneg _ (by decide),Int.emod_lt_of_pos _ (by decide)⟩
 ·rw[dN (by omega)];by_cases e:i=k
  ·subst e;rw[if_pos rfl];exact hx
  ·rw[if_neg (by omega)];exact h.dig i (by omega)
theorem mZ.done(h:mZ V m m r)(f:0<=V)(b:V < 256 ^ m)(g:m≠0->256 ^ (m - 1)<=V):IsB r V:=by
 have d:=h.len;have hv:=lJ f (r:=r) (fun i hi=>by rw[d];exact h.dig i (by omega)) m (by omega);rw[d,Nat.sub_self,List.drop_zero,Int.emod_eq_of_lt f b] at hv;refine⟨h.oct,fun a=>?_,hv⟩
 have hm:m≠0:=fun e=>a (List.eq_nil_of_length_eq_zero (by omega))
 have hd:=h.dig (m - 1) (by omega);rw[show m - 1 - (m - 1)=0 from by omega] at hd;rw[hd]
 have c:(0:Int) < 256 ^ (m - 1):=Int.pow_pos (by decide)
 have q1:1<=V / 256 ^ (m - 1):=by rw[Int.le_ediv_iff_mul_le c];have:=g hm;omega
 have j:V / 256 ^ (m - 1) < 256:=by
  rw[Int.ediv_lt_iff_lt_mul c,Int.mul_comm,<- Int.pow_succ,show (m - 1).succ=m from by omega];exact b
 rw[Int.emod_eq_of_lt (by omega) j];omega
theorem oW(c:0<=V):V < 256 ^ ((bitLen V.toNat+7) / 8)/\((bitLen V.toNat+7) / 8≠0->256 ^ ((bitLen V.toNat+7) / 8 - 1)<=V):=by
 obtain⟨v,rfl⟩:=Int.eq_ofNat_of_zero_le c;rw[Int.toNat_natCast];have hs:=bitLen_spec v
 have e:∀ j:Nat,(256:Int) ^ j=((2 ^ (8 * j):Nat):Int):=fun j=>by rw[Nat.pow_mul,Int.natCast_pow];rfl
 rw[e,e];constructor
 ·have:=Nat.pow_le_pow_right (n:=2) (by decide) (show bitLen v<=8 * ((bitLen v+7) / 8) by omega);have b:=hs.1;omega
 ·intro hm
  have a:v≠0:=by intro e;subst e;simp[bitLen] at hm
  have:=Nat.pow_le_pow_right (n:=2) (by decide) (show 8 * ((bitLen v+7) / 8 - 1)<=bitLen v - 1 by omega);have b:=hs.2 a;omega
theorem DL.of{w':World}{n c b o:Nat}(hn:n=l.length)(h1:n<=c)(h2:w.heap.size<=b)(h3:AtB w' ao b o l)(h4:dO w' b o n):DL w w' (.slice ao n c) l:=by
 subst hn;exact⟨ao,b,o,c,rfl,h1,h2,h3,h4⟩
theorem xy(ao:Option Addr)(n c b o:Nat)(l:List Int)(w:World)(K:l.length=n)(hc:n<=c)(C:n<=1099511627776)(wl:Words l)(M:At w ao b o l) :
  Calls Tryz.prog 234 #[.slice ao n c] w fun e w'=>∃ v r,e=.returned v/\DL w w' v r/\IsB r (val l)/\r.length=(bitLen (val l).toNat+7) / 8/\r.length<=8 * n/\Below w.heap.size w w':=by
 have O:=aP wl;obtain⟨A,B⟩:=oW O;have t1:=sQ ao n c b o l w K hc C wl M
 have P:bitLen (val l).toNat<=64 * n:=by
  have h1:=dP wl;rw[K,bpow] at h1;have h2:=(bitLen_spec (val l).toNat).2;by_cases c:bitLen (val l).toNat<=64 * n
  ·exact c
  ·have T:(val l).toNat≠0:=by intro e; rw[e] at c; simp[bitLen] at c
   have h4:=Nat.pow_le_pow_right (n:=2) (by decide) (show 64 * n<=bitLen (val l).toNat - 1 by omega);have:=h2 T;omega
 obtain⟨m,hm⟩:∃ m:Nat,((bitLen (val l).toNat:Int)+7) / 8=m:=⟨(bitLen (val l).toNat+7) / 8,by omega⟩
 have y:(bitLen (val l).toNat+7) / 8=m:=by omega
 rw[y] at A B ⊢;generalize bitLen (val l).toNat=L at *;have HM:=(show Hid ((L+7) / 8=m) from y)
 have hm8:m<=8 * n:=by omega
 clear y;go_enter Tryz.func234,Tryz.ntmps234;go_wp2_with fail;refine t1.mono ?_
 rintro e D ⟨rfl,t⟩;have u:=M.keep t;have p:=t.size;clear t1 M;go_wp2_with (at_make;refine p9 rfl _ _ rfl m _ _ rfl rfl (by omega) (by omega) (by omega) ?_;intro w2 d g S);have s:=u.keep g
 have F:l=[]\/b≠D.heap.size:=by
  rcases u.lt with e | e
  ·exact .inl e
  ·exact .inr (by omega)
 clear u;go_loopw [12] (fun I wr=>∃ (k:Nat) (r:List Int),k<=m/\I=.int .i64 k/\mZ (val l) m k r/\AtB wr (some ⟨D.heap.size,0,none⟩) D.heap.size 0 r/\Wr D.heap.size 0 m w2 wr) (fun I _=>m - (intOf I).toNat)
 case atStart=>exact⟨0,_,Nat.zero_le _,rfl,⟨by simp,fun x hx=>by rw[List.eq_of_mem_replicate hx];decide,fun i hi=>by omega⟩,d.at,Wr.refl _ _ _ _⟩
 case round =>
  obtain⟨k,r,hk,rfl,hinv,q,f⟩:=hrel;have hlen:=hinv.len;by_cases H:k < m
  ·obtain⟨i,hi⟩:∃ i:Nat,(k:Int) / 8=i:=⟨k / 8,by omega⟩
   obtain⟨j,hj⟩:∃ j:Nat,(k:Int) % 8=j:=⟨k % 8,by omega⟩
   obtain⟨h,hh⟩:∃ h:Nat,(m:Int) - 1 - k=h:=⟨m - 1 - k,by omega⟩
   have V:(i:Int) < n:=by omega
   have Q:(h:Int) < m:=by omega
   have W:j < 8:=by omega
   rcases s.loc with e | rfl
   ·subst e;simp at K;omega
   have U:=(s.wr f F).cell i (by omega);have N:=f.free (d.free 0 m) h (by omega);have G:=q.cell h (by omega);rw[Nat.zero_add] at N G;have hx:=wl.nth i;have z:=byte_at wl k (by omega);rw[show k / 8=i from by omega,show k % 8=j from by omega] at z
   have X:Hid (mZ (val l) m (k+1) (r.set h (nth l i / 2 ^ (8 * j) % 256))):=by
    have:=hinv.step (x:=nth l i / 2 ^ (8 * j) % 256) H z
    rwa [show m - 1 - k=h from by omega] at this
   have R:=(show Hid _ from q)
   have Y:=(show Hid _ from f)
   clear q f hinv d s wl z
   generalize nth l i=x at *;go_wp2_with fail;rw[Nat.mul_comm j 8];refine⟨⟨k+1,_,by omega,by go_num,X.out,?_,?_⟩,by simp[intOf];omega⟩
   ·have:=R.out.setCell (i:=h) (by omega) (x / 2 ^ (8 * j) % 256);rwa [Nat.zero_add] at this
   ·exact Y.out.setCell (by omega) (by omega) _
  ·have E:k=m:=by omega
   subst E;have Z:=hinv.done O A B;have J:=f.free (d.free 0 k);have HB:=(t.trans (g.mono p)).trans (f.below p);clear hinv d f g s t;go_wp2;go_ret;exact⟨_,r,rfl,DL.of hlen.symm (Nat.le_refl _) p q J,Z,by omega,by omega,HB⟩
end
end
end Go.Proofs.YtjejmkcjflhoiaaGreatDoor
