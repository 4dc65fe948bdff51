/- Several texts, joined: KyX, Reg, RegA, ToB. -/
import Derived.Test.YthfepflplbahkaaGreatDoorJak
import Derived.Test.YthfepflplbahkaaGreatDoorJaa
import Derived.Deep.RegionHeld3
import Derived.Laws.Tables
set_option maxRecDepth 100000
set_option maxHeartbeats 8000000
namespace Go.Proofs.YthfepflplbahkaaGreatDoor
section
namespace Ky
open Go.RowKit Go.Lib Pg
section
variable {n k o:Nat}{a b m0 m1 c d:Int}{w:World}{ao:Option Addr}
attribute [local go_sem] Oper.semAt_some
def plk(k:Int)(n:Nat):Nat:=(if Int.tmod k n < 0 then Int.tmod k n + n else Int.tmod k n).toNat
theorem plk_lt(k:Int)(hn:0 < n):plk k n < n:=by
 have b1:=Int.lt_tmod_of_pos k (show (0:Int) < n by omega);have b2:=Int.tmod_lt_of_pos k (show (0:Int) < n by omega);unfold plk;split<;>omega
theorem place_val(k:Int)(n:Nat)(hn:0 < n)(hn2:n<=2147483648)(w:World) :
  Calls Tryz.prog 36 #[.int .i64 k,.int .i64 n] w fun e w'=>e=.returned (.int .i64 (plk k n:Nat))/\w'=w:=by
 have h0:¬ ((n:Int)=0):=by omega
 have h1:¬ ((n:Int) = -1):=by omega
 have b1:=Int.lt_tmod_of_pos k (show (0:Int) < n by omega);have b2:=Int.tmod_lt_of_pos k (show (0:Int) < n by omega);unfold plk;obtain⟨r,hr⟩:∃ r,Int.tmod k n=r:=⟨_,rfl⟩
 rw[hr] at b1 b2 ⊢
 have b3 : -2147483648<=r/\r<=2147483648:=by omega
 by_cases aa:r < 0
 ·rw[if_pos aa,Int.toNat_of_nonneg (by omega)];go_enter Tryz.func36,Tryz.ntmps36;go_wp2;go_ret;exact⟨rfl,rfl⟩
 ·rw[if_neg aa,Int.toNat_of_nonneg (by omega)];go_enter Tryz.func36,Tryz.ntmps36;go_wp2;go_ret;exact⟨rfl,rfl⟩
theorem eight(l:List Int)(h:l.length=8):∃ a b c d e f g i,l=[a,b,c,d,e,f,g,i]:=by
 match l,h with
 | [a,b,c,d,e,f,g,i],_=>exact⟨a,b,c,d,e,f,g,i,rfl⟩
theorem mk_eq{k n:Int}(hf:frm k=(n,m0,m1)):mk k a b=[m0] ++ (if 8 < n then be 8 (tn k a) else []) ++ (if m1=0 then [] else [m1]) ++ (if 16 < n then be 8 b else []):=by
 unfold mk mkb;rw[hf]
theorem wU{k n:Int}(hf:frm k=(n,m0,m1))(hn:n≠0):mkE k a b=false<->(n<=8->a=0)/\(n<=16->b=0):=by
 unfold mkE;rw[hf];simp[hn];constructor
 ·rintro⟨d,c⟩;constructor
  ·intro h;by_cases e:a=0
   ·exact e
   ·have:=d e; omega
  ·intro h;by_cases e:b=0
   ·exact e
   ·have:=c e; omega
 ·rintro⟨d,c⟩;constructor
  ·intro e;by_cases h:n<=8
   ·exact absurd (d h) e
   ·omega
  ·intro e;by_cases h:n<=16
   ·exact absurd (c h) e
   ·omega
theorem u5:∀ k:Nat,k < 18->0 < k->((frm k).1=1/\(frm k).2.2=0)\/((frm k).1=9/\(frm k).2.2=0)\/((frm k).1=10/\(frm k).2.2≠0)\/((frm k).1=17/\(frm k).2.2=0)\/((frm k).1=18/\(frm k).2.2≠0):=by decide +kernel
theorem Fi:∀ k:Nat,k < 18->0 < k->(k=10->(frm k).1=17):=by decide +kernel
theorem tn_tn{k:Int}:tn k (tn k a)=a:=by
 unfold tn;split<;>omega
theorem mi{k:Int}(h:0<=a/\a < 18446744073709551616):0<=tn k a/\tn k a < 256 ^ 8:=by
 rw[show (256:Int) ^ 8=18446744073709551616 by decide];unfold tn;split<;>omega
theorem bv8(h:0<=a/\a < 18446744073709551616):bv (be 8 a)=a:=BR 8 h.1 (by rw[show (256:Int) ^ 8=18446744073709551616 by decide]; exact h.2)
theorem bv8t{k:Int}(h:0<=a/\a < 18446744073709551616):tn k (bv (be 8 (tn k a)))=a:=by
 rw[BR 8 (mi h).1 (mi h).2,tn_tn]
theorem iP(e : k < 18)(g : 0 < k)(d : 0 ≤ a ∧ a < 18446744073709551616)(hb : 0 ≤ b ∧ b < 18446744073709551616)(c : mkE k a b = false) :
    frm k = fIn (mk k a b) ∧ rdA k (mk k a b) = a ∧ rdB (mk k a b) = b := by
  obtain⟨⟨n, m0, m1⟩, hf⟩ : ∃ f, frm k = f := ⟨_, rfl⟩;have hF := u5 k e g;rw[hf] at hF;simp only at hF;have e1 := bv8t (k := k) d;have e2 := bv8 hb;obtain⟨o, r, s, l, p, h, q, u, hx⟩:= eight (be 8 (tn k a)) (aP _ _);obtain⟨y0, y1, y2, y3, y4, j, m, i, hy⟩:= eight (be 8 b) (aP _ _);rw[hx] at e1;rw[hy] at e2;rcases hF with⟨rfl, rfl⟩ | ⟨rfl, rfl⟩ | ⟨rfl, h1⟩ | ⟨rfl, rfl⟩ | ⟨rfl, h1⟩ <;>
    (obtain⟨hA, t⟩:= (wU hf (by decide)).1 c
     rw[mk_eq hf, hf, hx, hy]
     simp_all [fIn, rdA, rdB])
theorem mk_inj(i:k < 18)(p:0 < k)(g:o < 18)(n:0 < o)(l:0<=a/\a < 18446744073709551616)(hb:0<=b/\b < 18446744073709551616)(hc:0<=c/\c < 18446744073709551616)(m:0<=d/\d < 18446744073709551616)(j:mkE k a b=false)(f:mkE o c d=false)(h:mk k a b=mk o c d):k=o/\a=c/\b=d:=by
 obtain⟨f1,a1,b1⟩:=iP i p l hb j;obtain⟨f2,a2,b2⟩:=iP g n hc m f
 have e:k=o:=yi k i o g (by rw[f1,f2,h]);subst e;rw[h] at a1 b1;exact⟨rfl,by rw[<- a1,a2],by rw[<- b1,b2]⟩
theorem Hm:∀ k:Nat,k < 18->∀ o:Nat,o < 18->(0 < k/\0 < o/\(frm k).2.1=(frm o).2.1/\(frm k).1 < (frm o).1)->(frm k).1=10/\(frm o).1=18/\(frm k).2.2≠(frm o).2.2:=by decide +kernel
theorem mk_pre(f:k < 18)(g:0 < k)(l:o < 18)(m:0 < o)(p:0<=a/\a < 18446744073709551616)(hb:0<=b/\b < 18446744073709551616)(hc:0<=c/\c < 18446744073709551616)(r:0<=d/\d < 18446744073709551616)(n:mkE k a b=false)(i:mkE o c d=false)(h:mk k a b <+: mk o c d):mk k a b=mk o c d:=by
 obtain⟨f1,-,-⟩:=iP f g p hb n;obtain⟨f2,-,-⟩:=iP l m hc r i;have p1:=zp k f g;have q1:=fun h q=>Hm k f o l ⟨g,m,h,q⟩
 have hle:=h.length_le;obtain⟨t,e⟩:=h;rcases Nat.lt_or_ge (mk k a b).length (mk o c d).length with s | u
 ·exfalso;rw[f1,f2] at q1;rw[f1] at p1;simp only[fIn] at q1 p1
  have g0:(mk o c d)[0]? = (mk k a b)[0]? := by rw[<- e,List.getElem?_append_left (by omega)]
  obtain⟨r1,v,j⟩:=q1 (by rw[g0]) (by omega)
  have g9:(mk o c d)[9]? = (mk k a b)[9]? := by rw[<- e,List.getElem?_append_left (by omega)]
  rw[if_pos (by omega),if_pos (by omega),g9] at j;exact j rfl
 ·have:t=[]:=by
   have:=congrArg List.length e;rw[List.length_append] at this;exact List.eq_nil_of_length_eq_zero (by omega)
  rw[this,List.append_nil] at e;exact e
theorem CT(ha:0<=a/\a < 256 ^ 8)(hb:0<=b/\b < 256 ^ 8):Lt (be 8 a) (be 8 b)<->a < b:=uY 8 ha.1 ha.2 hb.1 hb.2
theorem be8_eq(ha:0<=a/\a < 256 ^ 8)(hb:0<=b/\b < 256 ^ 8):be 8 a=be 8 b<->a=b:=⟨be_inj ha.1 ha.2 hb.1 hb.2,fun h=>by rw[h]⟩
theorem nC{a:List Int}:¬ Lt a a:=lt_irrefl a
theorem Ir(o : k < 18)(q : 0 < k)(x : 0 ≤ a ∧ a < 18446744073709551616)(hb : 0 ≤ b ∧ b < 18446744073709551616)(hc : 0 ≤ c ∧ c < 18446744073709551616)(y : 0 ≤ d ∧ d < 18446744073709551616)(z : mkE k a b = false)(l : mkE k c d = false) :
    Lt (mk k a b) (mk k c d) ↔ (if k = 10 then c < a else a < c) ∨ (a = c ∧ b < d) := by
  obtain⟨⟨n, m0, m1⟩, hf⟩ : ∃ f, frm k = f := ⟨_, rfl⟩;have hF := u5 k o q;have r := Fi k o q;rw[hf] at hF r;simp only at hF r;have p := mi (k := k) x;have s := mi (k := k) hc
  have w : (256 : Int) ^ 8 = 18446744073709551616 := by decide
  have g := CT p s;have v := be8_eq p s;have u := CT (a := b) (b := d) (by rw[w]; exact hb) (by rw[w]; exact y)
  have e : tn k a < tn k c ↔ if k = 10 then c < a else a < c := by
    unfold tn;by_cases h : k = 10
    · subst h; simp
    · rw[if_neg (by omega), if_neg (by omega), if_neg h]
  have t : tn k a = tn k c ↔ a = c := by
    unfold tn;split <;> omega
  have j : (be 8 (tn k a)).length = (be 8 (tn k c)).length := by rw[aP, aP]
  rcases hF with⟨rfl, rfl⟩ | ⟨rfl, rfl⟩ | ⟨rfl, h1⟩ | ⟨rfl, rfl⟩ | ⟨rfl, h1⟩ <;>
    (obtain⟨hA, i⟩:= (wU hf (by decide)).1 z
     obtain⟨hC, m⟩:= (wU hf (by decide)).1 l
     rw[mk_eq hf, mk_eq hf])
  · have := hA (by decide); have := i (by decide); have := hC (by decide); have := m (by decide)
    subst_vars
    simp[nC]
  · have := i (by decide); have := m (by decide)
    subst_vars
    simp only[if_pos (show (8 : Int) < 9 by decide), if_neg (show ¬ (16 : Int) < 9 by decide), if_true, List.append_nil];rw[hH, g, e];simp
  · have := i (by decide); have := m (by decide)
    subst_vars
    simp only[if_pos (show (8 : Int) < 10 by decide), if_neg (show ¬ (16 : Int) < 10 by decide), if_neg h1, List.append_nil];rw[List.append_assoc, List.append_assoc, hH, ia j, g, e];simp[nC]
  · simp only[if_pos (show (8 : Int) < 17 by decide), if_pos (show (16 : Int) < 17 by decide), if_true, List.append_nil]
    simp only[List.append_assoc];rw[hH, ia j, g, e, v, t, u]
  · simp only[if_pos (show (8 : Int) < 18 by decide), if_pos (show (16 : Int) < 18 by decide), if_neg h1]
    simp only[List.append_assoc];rw[hH, ia j, hH, g, e, v, t, u]
theorem read_mk{c:Nat}(f:k < 18)(d:0 < k)(i:0<=a/\a < 18446744073709551616)(hb:0<=b/\b < 18446744073709551616)(g:mkE k a b=false)(h:By w (.slice ao n c) (mk k a b))(hn:n<=1000000000) :
  Calls Tryz.prog 84 #[.slice ao n c] w fun e w'=>e=.returned (.tuple #[.agg #[.int .i64 (k:Int),.int .u64 a,.int .u64 b],.int .i64 0])/\Below w.heap.size w w':=by
 obtain⟨f1,a1,b1⟩:=iP f d i hb g;refine(oG h hn f d f1).mono ?_
 rw[a1,b1];exact fun e w' h=>h
theorem jI(k a b:Int):(mk k a b).length<=18:=by
 unfold mk;rw[List.length_append];have:=fq (frm k) (tn k a);split
 ·rw[aP]; omega
 ·simp; omega
end
end Ky
end
section
open Go.RowKit Lim
theorem load_raw {w:World} {g:Nat} {ao:Option Addr} {n c:Nat} {t:TypeId} (s:Slot w g (.slice ao n c) t):(loadVar 30 ⟨g,0,none⟩).run Tryz.prog w=.ok (.slice ao n c) w:=by
 have hc:=s.cell;go_simp
section
variable {ops:Array Oper} {Q:Exit->Act->World->Prop} {S:World->Prop} {fuel:Nat} {listed:Array Bool} {a:Act} {w:World}
section
variable {Qc:Ending->World->Prop}
def gN(ops:Array Oper)(listed:Array Bool)(a:Act)(i:Nat)(d:Option Tmp):Bool :=
 Region.noSelect ops && Region.free .any ops listed i && (Region.ready .any ops listed).contains i && decide (i < ops.size) && Region.wanted (ops.getD i default) (yielded ops a.tmps) && decide ((ops.getD i default).dst=d)
def uV(ops:Array Oper)(listed:Array Bool)(a:Act)(i:Nat)(d:Option Tmp):Bool :=
 Region.noSelect ops && Region.free .any ops listed i && (Region.ready .any ops listed).contains i && decide (i < ops.size) && !Region.wanted (ops.getD i default) (yielded ops a.tmps) && decide ((ops.getD i default).dst=d)
def eZ(ops:Array Oper)(listed:Array Bool)(a:Act)(i:Nat)(d:Option Tmp):Bool :=
 decide (Region.ready .any ops listed=[i]) && decide (i < ops.size) && Region.wanted (ops.getD i default) (yielded ops a.tmps) && decide ((ops.getD i default).dst=d)
theorem bp{i:Nat}(h:i < ops.size):ops[i]? = some (ops.getD i default):=by
 simp[Array.getD,h]
theorem aj(i:Nat)(d:Option Tmp)(v:Value)(hc:gN ops listed a i d=true)(hy:∀ w',S w'->(execOp a.eval (ops.getD i default)).run Tryz.prog w'=.ok (.value v) w')(e:∀ c a w,Q (.panic c) (a.put d v) w->Q (.panic c) a w)(hS:S w)(h:wpAnyH Tryz.prog .any ops Q S fuel (listed.setIfInBounds i true) (a.put d v) w):wpAnyH Tryz.prog .any ops Q S (fuel + 1) listed a w:=by
 simp only[gN,Bool.and_eq_true,decide_eq_true_eq] at hc;obtain⟨⟨⟨⟨⟨l,b⟩,k⟩,j⟩,f⟩,g⟩:=hc;subst g;exact wpAnyH_take (bp j) l b k e (.inl ⟨f,hy⟩) hS h
theorem jx(i:Nat)(d:Option Tmp)(v b:Value)(hv:v=b)(hc:gN ops listed a i d=true)(hy:∀ w',S w'->(execOp a.eval (ops.getD i default)).run Tryz.prog w'=.ok (.value v) w')(e:∀ c a w,Q (.panic c) (a.put d b) w->Q (.panic c) a w)(hS:S w)(h:wpAnyH Tryz.prog .any ops Q S fuel (listed.setIfInBounds i true) (a.put d b) w):wpAnyH Tryz.prog .any ops Q S (fuel + 1) listed a w:=by
 subst hv;exact aj i d v hc hy e hS h
theorem db(i:Nat)(d:Option Tmp)(hc:uV ops listed a i d=true)(e:∀ c a w,Q (.panic c) (a.put d undef) w->Q (.panic c) a w)(hS:S w)(h:wpAnyH Tryz.prog .any ops Q S fuel (listed.setIfInBounds i true) (a.put d undef) w):wpAnyH Tryz.prog .any ops Q S (fuel + 1) listed a w:=by
 simp only[uV,Bool.and_eq_true,decide_eq_true_eq,Bool.not_eq_true'] at hc;obtain⟨⟨⟨⟨⟨l,b⟩,k⟩,j⟩,f⟩,g⟩:=hc;subst g;exact wpAnyH_take (bp j) l b k e (.inr ⟨f,rfl⟩) hS h
theorem aL(i:Nat)(d:Option Tmp)(v:Value)(T:TypeId)(k g o:Nat)(hc:gN ops listed a i d=true)(e:(ops.getD i default).op=.load T (.tmp k))(l:a.eval (.tmp k)=.pointer (some ⟨g,o,none⟩))(j:∀ w',S w'->(loadVar T ⟨g,o,none⟩).run Tryz.prog w'=.ok v w')(f:∀ c a w,Q (.panic c) (a.put d v) w->Q (.panic c) a w)(hS:S w)(h:wpAnyH Tryz.prog .any ops Q S fuel (listed.setIfInBounds i true) (a.put d v) w):wpAnyH Tryz.prog .any ops Q S (fuel + 1) listed a w :=
 aj i d v hc (fun w' b=>by
  have:=j w' b;simp only[execOp,e,l]
  simp[Instr.loadAt,Instr.sureAddr,Result.andThen,this]) f hS h
theorem aU(i:Nat)(d:Option Tmp)(f:FuncId)(args:Array Value)(hc:eZ ops listed a i d=true)(c:(execOp a.eval (ops.getD i default)).run Tryz.prog w=.ok (.enter f args) w)(b:Calls Tryz.prog f args w Qc)(k:∀ e w',Qc e w'->∃ v,e=.returned v/\S w'/\wpAnyH Tryz.prog .any ops Q S fuel (listed.setIfInBounds i true) (a.put d v) w') :
  wpAnyH Tryz.prog .any ops Q S (fuel + 1) listed a w:=by
 simp only[eZ,Bool.and_eq_true,decide_eq_true_eq] at hc;obtain⟨⟨⟨p,l⟩,o⟩,h⟩:=hc;subst h;refine wpAnyH_all p (by simp) fun j m => ?_
 obtain rfl:j=i:=by simpa using m
 refine wpOp_step (bp l) fun K n => ?_
 rw[if_pos o];unfold Oper.wp;rw[c];refine b.mono fun e w' he => ?_
 obtain⟨v,rfl,g,hw⟩:=k e w' he;exact n _ _ ⟨g,hw⟩
theorem bj(hr:Region.ready .any ops listed=[])(h:Q .normal a w):wpAnyH Tryz.prog .any ops Q S fuel listed a w:=wpAnyH_done hr h fuel
theorem bH{id:Nat}(hm:Tryz.prog.follows .mixedOrders=true)(hS:S w.drew)(h:wpAnyH Tryz.prog .any ops Q S ops.size (Array.replicate ops.size false) a w.drew):(Code.region id ops true).wp Tryz.prog Q a w :=
 wp_region_held_drew hm hS fun _=>h
end
end
end
section
open Go.RowKit Lim
section
variable {w w':World}{g g' B o n c i j m d:Nat}{cs ds:List Value}{v:Value}{ao b a:Option Addr}{l:List Int}{x:Int}
structure Box(w:World)(g:Nat)(cs:List Value)(t:TypeId):Prop where
 blk:w.heap[g]? = some (.cells cs.toArray t (0,0))
theorem Box.lt{t:TypeId}(h:Box w g cs t):g < w.heap.size:=lt_of_block h.blk
theorem Box.keep{t:TypeId}(h:Box w g cs t)(hb:Below w.heap.size w w'):Box w' g cs t:=⟨by rw[hb.block g h.lt]; exact h.blk⟩
theorem Box.drew{t:TypeId}(h:Box w g cs t):Box w.drew g cs t:=⟨h.blk⟩
theorem gu(w:World)(cs:List Value)(t:TypeId):Box (w.alloc (.cells cs.toArray t)) w.heap.size cs t:=⟨by
 show (w.heap.push _)[w.heap.size]? = _
 rw[Array.getElem?_push_size]⟩
theorem Box.slot{t:TypeId}(h:Box w g [v] t):Slot w g v t:=⟨h.blk⟩
theorem Slot.box{t:TypeId}(h:Slot w g v t):Box w g [v] t:=⟨h.blk⟩
theorem Box.row{t:TypeId}(h:Box w g cs t):Box (w.setRow g ds.toArray) g ds t:=⟨by rw[setRow_heap w g _ _ _ _ h.blk]⟩
theorem Box.other{t:TypeId}(h:Box w g cs t)(hne:g≠g')(ds:Array Value):Box (w.setRow g' ds) g cs t:=⟨by rw[setRow_other w g' g ds hne]; exact h.blk⟩
theorem j7(h:Below B w w')(hB:B<=g)(ds:Array Value):Below B w (w'.setRow g ds) :=
 h.trans ⟨rfl,rfl,rfl,by simp[World.setRow],fun k hk=>setRow_other w' g k ds (by omega)⟩
theorem At.row{b:Nat}(k:At w ao b o l){t:TypeId}(s:Box w g cs t)(hv:∀ v∈cs,∀ x,v≠.int .u64 x)(ds:Array Value):At (w.setRow g ds) ao b o l :=
 ⟨k.loc,fun i hi=>by
  have hc:=k.cell i hi;by_cases e:b=g
  ·subst e;simp only[World.cell?,s.blk] at hc
   have a:cs.toArray[o + i]? = some (.int .u64 (nth l i)):=by simpa using hc
   rw[List.getElem?_toArray] at a;exact absurd rfl (hv _ (List.mem_of_getElem? a) _)
  ·rw[World.cell?_of_block (w:=w) (setRow_other w g b ds e)]; exact hc⟩
theorem bQ.row(h:bQ w ao n c x){t:TypeId}(s:Box w g cs t)(hv:∀ v∈cs,∀ x,v≠.int .u64 x)(ds:Array Value):bQ (w.setRow g ds) ao n c x:=by
 obtain⟨b,o,l,f,a,e,d⟩:=h.ex;exact⟨b,o,l,f,a,e,d.row s hv ds⟩
theorem aN.row(h:aN w ao n c x){t:TypeId}(s:Box w g cs t)(hv:∀ v∈cs,∀ x,v≠.int .u64 x)(ds:Array Value):aN (w.setRow g ds) ao n c x:=by
 obtain⟨b,o,l,i,a,f,e,d⟩:=h.ex;exact⟨b,o,l,i,a,f,e.row s hv ds,d⟩
theorem At.blk{b:Nat}(k:At w ao b o l){t:TypeId}(s:Box w g cs t)(hv:∀ v∈cs,∀ x,v≠.int .u64 x)(hw:∀ k,k≠g->w'.heap[k]? = w.heap[k]?):At w' ao b o l :=
 ⟨k.loc,fun i hi=>by
  have hc:=k.cell i hi;by_cases e:b=g
  ·subst e;simp only[World.cell?,s.blk] at hc
   have a:cs.toArray[o + i]? = some (.int .u64 (nth l i)):=by simpa using hc
   rw[List.getElem?_toArray] at a;exact absurd rfl (hv _ (List.mem_of_getElem? a) _)
  ·rw[World.cell?_of_block (w:=w) (hw b e)]; exact hc⟩
theorem kV(w:World)(g:Nat)(u v:Value)(k:Nat)(hk:k≠g):((w.setCell ⟨g,0,none⟩ u).setCell ⟨g,1,none⟩ v).heap[k]? = w.heap[k]? := by
 rw[Below.heap_setCell _ _ v k hk,Below.heap_setCell _ _ u k hk]
theorem Box.put2{a b:Value}{t:TypeId}(h:Box w g [a,b] t)(u v:Value):Box ((w.setCell ⟨g,0,none⟩ u).setCell ⟨g,1,none⟩ v) g [u,v] t:=⟨by
 have:=h.blk;simp only[World.setCell,Array.getElem?_modify,if_true,this]
 simp⟩
theorem Box.other2{t:TypeId}(h:Box w g cs t)(hne:g≠g')(u v:Value):Box ((w.setCell ⟨g',0,none⟩ u).setCell ⟨g',1,none⟩ v) g cs t:=⟨by rw[kV w g' u v g hne]; exact h.blk⟩
theorem below_put2(h:Below B w w')(hB:B<=g)(u v:Value):Below B w ((w'.setCell ⟨g,0,none⟩ u).setCell ⟨g,1,none⟩ v):=(h.setCell (p:=⟨g,0,none⟩) hB u).setCell (p:=⟨g,1,none⟩) hB v
theorem no_ints1(a:Option Addr)(n c:Nat):∀ v∈[Value.slice a n c],∀ x,v≠.int .u64 x:=fun v hv x e=>by
 rw[List.mem_singleton] at hv; subst hv; cases e
theorem uO(a b:Option Addr)(n c m d:Nat):∀ v∈[Value.slice a n c,Value.slice b m d],∀ x,v≠.int .u64 x:=fun v hv x e=>by
 rcases List.mem_cons.1 hv with h | h
 ·subst h; cases e
 ·rw[List.mem_singleton] at h; subst h; cases e
theorem bQ.put2(h:bQ w ao n c x){t:TypeId}(s:Box w g [.slice a i j,.slice b m d] t)(u v:Value):bQ ((w.setCell ⟨g,0,none⟩ u).setCell ⟨g,1,none⟩ v) ao n c x:=by
 obtain⟨b,o,l,r,e,q,p⟩:=h.ex;exact⟨b,o,l,r,e,q,p.blk s (uO _ _ _ _ _ _) (fun k f=>kV w g u v k f)⟩
theorem aN.put2(h:aN w ao n c x){t:TypeId}(s:Box w g [.slice a i j,.slice b m d] t)(u v:Value):aN ((w.setCell ⟨g,0,none⟩ u).setCell ⟨g,1,none⟩ v) ao n c x:=by
 obtain⟨b,o,l,y,e,r,q,f⟩:=h.ex;exact⟨b,o,l,y,e,r,q.blk s (uO _ _ _ _ _ _) (fun k p=>kV w g u v k p),f⟩
theorem bQ.blk(h:bQ w ao n c x){t:TypeId}(s:Box w g cs t)(hv:∀ v∈cs,∀ x,v≠.int .u64 x)(hw:∀ k,k≠g->w'.heap[k]? = w.heap[k]?):bQ w' ao n c x:=by
 obtain⟨b,o,l,f,a,e,d⟩:=h.ex;exact⟨b,o,l,f,a,e,d.blk s hv hw⟩
theorem aN.blk(h:aN w ao n c x){t:TypeId}(s:Box w g cs t)(hv:∀ v∈cs,∀ x,v≠.int .u64 x)(hw:∀ k,k≠g->w'.heap[k]? = w.heap[k]?):aN w' ao n c x:=by
 obtain⟨b,o,l,i,a,f,e,d⟩:=h.ex;exact⟨b,o,l,i,a,f,e.blk s hv hw,d⟩
theorem Box.off{t:TypeId}(h:Box w g cs t)(hne:g≠g')(hw:∀ k,k≠g'->w'.heap[k]? = w.heap[k]?):Box w' g cs t:=⟨by rw[hw g hne]; exact h.blk⟩
def fm(a:Act):List (Option Tmp × Value)->Act
 | []=>a
 | p :: l=>fm (a.put p.1 p.2) l
end
section
variable {ops:Array Oper} {Q:Exit->Act->World->Prop} {S:World->Prop} {fuel:Nat} {listed:Array Bool} {a:Act} {w:World}
section
variable {K:Act->World->Prop}{rs:List Nat}{Qc:Ending->World->Prop}{cs ds:List Value}
theorem pC{X:Type}{id:Nat}{c:Exit->Act->World->Prop}(upd:X->List (Option Tmp × Value))(F:X->World->Prop)(S:World->Prop)(hm:Tryz.prog.follows .mixedOrders=true)(hS:S w.drew)(d:wpAnyH Tryz.prog .any ops (Exit.then (fun a' w'=>∃ x,a'=fm a (upd x)/\F x w') (fun _ _ _=>False)) S ops.size (Array.replicate ops.size false) a w.drew)(b:∀ x w',F x w'->K (fm a (upd x)) w'):(Code.region id ops true).wp Tryz.prog (Exit.then K c) a w :=
 Code.wp_mono (fun e a' w' h=>by
  cases e<;>first
   | (obtain⟨x,rfl,hF⟩:=h; exact b x w' hF)
   | exact h.elim) (wp_region_held_drew (S:=S) hm hS fun _=>d)
def eX(ops:Array Oper)(a:Act)(i:Nat)(d:Option Tmp):Bool :=
 decide (i < ops.size) && Region.wanted (ops.getD i default) (yielded ops a.tmps) && decide ((ops.getD i default).dst=d)
theorem aO(rs:List Nat)(hr:Region.ready .any ops listed=rs)(hne:rs≠[])(h:AllReadyH Tryz.prog .any ops Q S fuel listed a w rs):wpAnyH Tryz.prog .any ops Q S (fuel + 1) listed a w:=wpAnyH_ready hr hne h
theorem bB:AllReadyH Tryz.prog .any ops Q S fuel listed a w []:=AllReadyH.nil
theorem tu(i:Nat)(d:Option Tmp)(f:FuncId)(args:Array Value)(hc:eX ops a i d=true)(c:(execOp a.eval (ops.getD i default)).run Tryz.prog w=.ok (.enter f args) w)(b:Calls Tryz.prog f args w Qc)(j:∀ e w',Qc e w'->∃ v,e=.returned v/\S w'/\wpAnyH Tryz.prog .any ops Q S fuel (listed.setIfInBounds i true) (a.put d v) w')(hs:AllReadyH Tryz.prog .any ops Q S fuel listed a w rs):AllReadyH Tryz.prog .any ops Q S fuel listed a w (i :: rs):=by
 simp only[eX,Bool.and_eq_true,decide_eq_true_eq] at hc;obtain⟨⟨k,m⟩,h⟩:=hc;subst h;refine AllReadyH.cons (bp k) (fun K l => ?_) hs;rw[if_pos m];unfold Oper.wp;rw[c];refine b.mono fun e w' he => ?_
 obtain⟨v,rfl,g,hw⟩:=j e w' he;exact l.out _ _ g fun _=>hw
theorem bS(i:Nat)(d:Option Tmp)(v:Value)(w1:World)(hc:eX ops a i d=true)(b:(execOp a.eval (ops.getD i default)).run Tryz.prog w=.ok (.value v) w1)(c:S w1)(h:wpAnyH Tryz.prog .any ops Q S fuel (listed.setIfInBounds i true) (a.put d v) w1)(hs:AllReadyH Tryz.prog .any ops Q S fuel listed a w rs):AllReadyH Tryz.prog .any ops Q S fuel listed a w (i :: rs):=by
 simp only[eX,Bool.and_eq_true,decide_eq_true_eq] at hc;obtain⟨⟨f,j⟩,e⟩:=hc;subst e;refine AllReadyH.cons (bp f) (fun K g => ?_) hs;rw[if_pos j];unfold Oper.wp;rw[b]
 show K (a.put (ops.getD i default).dst v) w1
 exact g.out _ _ c fun _=>h
theorem dJ(i:Nat)(w1:World)(hc:eX ops a i none=true)(b:(execOp a.eval (ops.getD i default)).run Tryz.prog w=.ok .skip w1)(c:S w1)(h:wpAnyH Tryz.prog .any ops Q S fuel (listed.setIfInBounds i true) (a.put none undef) w1)(hs:AllReadyH Tryz.prog .any ops Q S fuel listed a w rs):AllReadyH Tryz.prog .any ops Q S fuel listed a w (i :: rs):=by
 simp only[eX,Bool.and_eq_true,decide_eq_true_eq] at hc;obtain⟨⟨e,g⟩,d⟩:=hc;refine AllReadyH.cons (bp e) (fun K f => ?_) hs;rw[if_pos g];unfold Oper.wp;rw[b]
 show K (a.put (ops.getD i default).dst undef) w1
 rw[d];exact f.out _ _ c fun _=>h
theorem G0{o:Oper}{T t:TypeId}{p q g:Nat}(b:o.op=.store T (.tmp p) (.tmp q))(e:a.eval (.tmp p)=.pointer (some ⟨g,0,none⟩))(c:a.eval (.tmp q)=.agg ds.toArray)(hb:Box w g cs t)(hi:(Tryz.prog.info? T).map (·.size)=some ds.toArray.size)(d:cs.length=ds.length)(f:ds.toArray.all (·.oneCell')=true) :
  (execOp a.eval o).run Tryz.prog w=.ok .skip (w.setRow g ds.toArray):=by
 have:=run_storeVar_row (P:=Tryz.prog) w g t T cs.toArray ds.toArray hb.blk hi (by simp[d]) f;simp only[execOp,b,e,c];simp[Instr.storeAt,Instr.sureAddr,Result.andThen,this]
theorem uW(i:Nat)(d:Option Tmp)(T:TypeId)(cs:List Value)(hc:eX ops a i d=true)(b:(execOp a.eval (ops.getD i default)).run Tryz.prog w=.ok (.value (.pointer (some ⟨w.heap.size,0,none⟩))) (w.alloc (.cells cs.toArray T)))(e:∀ V,Box V w.heap.size cs T->Below w.heap.size w V->S V/\wpAnyH Tryz.prog .any ops Q S fuel (listed.setIfInBounds i true) (a.put d (.pointer (some ⟨w.heap.size,0,none⟩))) V)(hs:AllReadyH Tryz.prog .any ops Q S fuel listed a w rs):AllReadyH Tryz.prog .any ops Q S fuel listed a w (i :: rs):=by
 obtain⟨f,c⟩:=e _ (gu w cs T) (ae w _);exact bS i d _ _ hc b f c hs
theorem ar_store(i:Nat)(T t:TypeId)(p q g:Nat)(cs ds:List Value)(hc:eX ops a i none=true)(d:(ops.getD i default).op=.store T (.tmp p) (.tmp q))(h:a.eval (.tmp p)=.pointer (some ⟨g,0,none⟩))(e:a.eval (.tmp q)=.agg ds.toArray)(hb:Box w g cs t)(hi:(Tryz.prog.info? T).map (·.size)=some ds.toArray.size)(f:cs.length=ds.length)(j:ds.toArray.all (·.oneCell')=true)(c:∀ V,Box V g ds t->(∀ k,k≠g->V.heap[k]? = w.heap[k]?)->Below g w V->S V/\wpAnyH Tryz.prog .any ops Q S fuel (listed.setIfInBounds i true) (a.put none undef) V)(hs:AllReadyH Tryz.prog .any ops Q S fuel listed a w rs):AllReadyH Tryz.prog .any ops Q S fuel listed a w (i :: rs):=by
 have b:=G0 (a:=a) (w:=w) d h e hb hi f j;obtain⟨e1,e2⟩:=c (w.setRow g ds.toArray) hb.row (fun k c=>setRow_other w g k _ c) (j7 (Below.refl _ _) (Nat.le_refl _) _);exact dJ i _ hc b e1 e2 hs
end
end
end
section
open Go.RowKit Lim
section
variable {w:World}{g o m b:Nat}{l r:List Int}{ops:Array Oper}{rest:List Oper}{V:Int}{ao:Option Addr}
theorem lW:(Tryz.prog.info? 5).map (fun i=>(i.zero,i.size,i.bytes))=some (some (.int .u8 0),1,1):=by kernel_rfl
theorem cA:Tryz.prog.underlying 96=some (.slice 5):=by kernel_rfl
def uF(w:World)(g:Nat)(l:List Int):Prop:=w.heap[g]? = some (.cells (l.map (Value.int .u8)).toArray 5 (0,0))
theorem uF.at(h:uF w g l):AtB w (some ⟨g,0,none⟩) g 0 l :=
 ⟨.inr rfl,fun i hi=>by
  unfold uF at h;simp only[World.cell?,h]
  simp[bT hi,hi]⟩
theorem uF.free(h:uF w g l)(o n:Nat):dW w g o n:=by
 intro i _;unfold uF at h;simp[World.frozen?,h]
theorem yA(n:Nat):madeCells (Value.int .u8 0).cells n=((List.replicate n 0).map (Value.int .u8)).toArray:=by
 apply Array.ext
 ·simp[size_madeCells]
 ·intro j b a;simp[madeCells,Value.cells,Nat.mod_one]
theorem sj{o:Oper}{a:Act}{Q:Exit->Act->World->Prop}(j:o.guard=none)(l c:Operand)(e:o.op=Op.makeSlice 96 l c)(n:Nat)(L C:Int)(f:a.eval l=.int .i64 L)(hc:a.eval c=.int .i64 C)(hL:L=(n:Int))(hC:C=(n:Int))(hn:n<=17592186044416)(h:∀ w',uF w' w.heap.size (List.replicate n 0)->Below w.heap.size w w'->w'.heap.size=w.heap.size + 1->wpList Tryz.prog ops Q rest (a.put o.dst (.slice (some ⟨w.heap.size,0,none⟩) n n)) w') :
  wpList Tryz.prog ops Q (o :: rest) a w:=by
 obtain⟨i,hi,g,hs,hb⟩:=info_parts lW;refine wpList_plain j fun K d => ?_
 have b:=run_make (P:=Tryz.prog) w 96 5 i (.int .u8 0) cA hi g .i64 .i64 (n:Int) (n:Int) (by omega) (by omega) (by rw[hb]; omega) (by omega);subst hL;subst hC;unfold Oper.wp;simp only[execOp,e,f,hc];simp[b,Result.andThen];refine d _ _ (h _ ?_ ?_ ?_)
 ·show (w.heap.push _)[w.heap.size]? = _
  rw[Array.getElem?_push_size,hs,Nat.mul_one,yA]
 ·exact(Below.refl _ _).alloc (Nat.le_refl _) _
 ·simp
theorem oJ(V:Int)(d:0<=V)(k:Nat):V % 256 ^ (k + 1)=(V / 256 ^ k % 256) * 256 ^ k + V % 256 ^ k:=by
 obtain⟨v,rfl⟩:=Int.eq_ofNat_of_zero_le d
 have e:∀ j:Nat,(256:Int) ^ j=((256 ^ j:Nat):Int):=fun j=>by rw[Int.natCast_pow]; rfl
 rw[e,e];have:=Nat.mod_mul (x:=v) (a:=256 ^ k) (b:=256);rw[<- Nat.pow_succ] at this
 have c:((v % 256 ^ (k + 1):Nat):Int)=((v % 256 ^ k + 256 ^ k * (v / 256 ^ k % 256):Nat):Int):=by rw[this]
 rw[Int.natCast_add,Int.natCast_mul] at c;simp only[Int.natCast_emod,Int.natCast_ediv] at c;rw[c,Int.add_comm,Int.mul_comm]; rfl
theorem nm(a:0<=V)(h:∀ i,i < r.length->nth r (r.length - 1 - i)=V / 256 ^ i % 256):∀ k,k<=r.length->bO (r.drop (r.length - k))=V % 256 ^ k
 | 0,_=>by rw[Nat.sub_zero,List.drop_length]; simp[bO]
 | k + 1,hk=>by
  have ih:=nm a h k (by omega);rw[show r.length - (k + 1)=r.length - 1 - k from by omega,qF (by omega),show r.length - 1 - k + 1=r.length - k from by omega,ih,h k (by omega),show r.length - 1 - (r.length - 1 - k)=k from by omega,oJ V a k]
theorem byte_at(wl:Words l)(i:Nat)(hi:i / 8 < l.length):nth l (i / 8) / 2 ^ (8 * (i % 8)) % 256=val l / 256 ^ i % 256:=by
 have e2:=bP l (i / 8) (by omega);rw[List.drop_eq_getElem_cons hi,val,<- bT hi] at e2;have c:=aQ (wl.take (i / 8));have a:=ee (wl.take (i / 8));rw[List.length_take,Nat.min_eq_left (by omega)] at a;have b:=pow_pos (i / 8)
 have hS:(0:Int) < 2 ^ (8 * (i % 8)):=Int.pow_pos (by decide)
 have d:(18446744073709551616:Int)=2 ^ (8 * (i % 8)) * (256 * 2 ^ (56 - 8 * (i % 8))):=by
  rw[show (256:Int)=2 ^ 8 from rfl,<- Int.pow_add,<- Int.pow_add,show 8 * (i % 8) + (8 + (56 - 8 * (i % 8)))=64 from by omega]; rfl
 rw[mz,<- Int.ediv_ediv_of_nonneg (Int.le_of_lt b),e2,Int.add_mul_ediv_left _ _ (by omega),Int.ediv_eq_zero_of_lt c a,Int.zero_add];generalize nth l (i / 8)=x at *;generalize val (l.drop (i / 8 + 1))=y at *
 conv=>rhs; rw[d]
 rw[Int.mul_assoc,Int.add_mul_ediv_left _ _ (by omega),Int.mul_assoc,Int.add_mul_emod_self_left]
structure oX(V:Int)(m k:Nat)(r:List Int):Prop where
 len:r.length=m
 oct:aV r
 dig:∀ i,i < k->nth r (m - 1 - i)=V / 256 ^ i % 256
theorem oX.step{k:Nat}{x:Int}(h:oX V m k r)(b:k < m)(hx:x=V / 256 ^ k % 256):oX V m (k + 1) (r.set (m - 1 - k) x):=by
 have a:=h.len;refine⟨by simp[a],fun y hy => ?_,fun i hi => ?_⟩
 ·rcases List.mem_or_eq_of_mem_set hy with e | e
  ·exact h.oct y e
  ·subst e; rw[hx]; exact⟨Int.emod_nonneg _ (by decide),Int.emod_lt_of_pos _ (by decide)⟩
 ·rw[ep (by omega)];by_cases e:i=k
  ·subst e; rw[if_pos rfl]; exact hx
  ·rw[if_neg (by omega)]; exact h.dig i (by omega)
theorem oX.done(h:oX V m m r)(f:0<=V)(g:V < 256 ^ m)(j:m≠0->256 ^ (m - 1)<=V):IsB r V:=by
 have b:=h.len;have hv:=nm f (r:=r) (fun i hi=>by rw[b]; exact h.dig i (by omega)) m (by omega);rw[b,Nat.sub_self,List.drop_zero,Int.emod_eq_of_lt f g] at hv;refine⟨h.oct,fun a => ?_,hv⟩
 have hm:m≠0:=fun e=>a (List.eq_nil_of_length_eq_zero (by omega))
 have c:=h.dig (m - 1) (by omega);rw[show m - 1 - (m - 1)=0 from by omega] at c;rw[c]
 have d:(0:Int) < 256 ^ (m - 1):=Int.pow_pos (by decide)
 have q1:1<=V / 256 ^ (m - 1):=by rw[Int.le_ediv_iff_mul_le d]; have:=j hm; omega
 have k:V / 256 ^ (m - 1) < 256:=by
  rw[Int.ediv_lt_iff_lt_mul d,Int.mul_comm,<- Int.pow_succ,show (m - 1).succ=m from by omega]; exact g
 rw[Int.emod_eq_of_lt (by omega) k]; omega
theorem qK(b:0<=V):V < 256 ^ ((bitLen V.toNat + 7) / 8)/\((bitLen V.toNat + 7) / 8≠0->256 ^ ((bitLen V.toNat + 7) / 8 - 1)<=V):=by
 obtain⟨v,rfl⟩:=Int.eq_ofNat_of_zero_le b;rw[Int.toNat_natCast];have hs:=bitLen_spec v
 have e:∀ j:Nat,(256:Int) ^ j=((2 ^ (8 * j):Nat):Int):=fun j=>by rw[Nat.pow_mul,Int.natCast_pow]; rfl
 rw[e,e];constructor
 ·have:=Nat.pow_le_pow_right (n:=2) (by decide) (show bitLen v<=8 * ((bitLen v + 7) / 8) by omega);have c:=hs.1;omega
 ·intro hm
  have a:v≠0:=by intro e; subst e; simp[bitLen] at hm
  have:=Nat.pow_le_pow_right (n:=2) (by decide) (show 8 * ((bitLen v + 7) / 8 - 1)<=bitLen v - 1 by omega);have c:=hs.2 a;omega
theorem FH.of{w':World}{n c:Nat}(hn:n=l.length)(h1:n<=c)(h2:w.heap.size<=b)(h3:AtB w' ao b o l)(h4:dW w' b o n):FH w w' (.slice ao n c) l:=by
 subst hn; exact⟨ao,b,o,c,rfl,h1,h2,h3,h4⟩
theorem AtB.drew(h:AtB w ao b o l):AtB w.drew ao b o l:=⟨h.loc,h.cell⟩
theorem zY(ao:Option Addr)(n c b o:Nat)(l:List Int)(w:World)(hl:l.length=n)(hc:n<=c)(ak:n<=1099511627776)(wl:Words l)(ha:At w ao b o l) :
  Calls Tryz.prog 230 #[.slice ao n c] w fun e w'=>∃ v r,e=.returned v/\FH w w' v r/\IsB r (val l)/\r.length=(bitLen (val l).toNat + 7) / 8/\r.length<=8 * n/\Below w.heap.size w w':=by
 have hV:=aQ wl;obtain⟨am,al⟩:=qK hV;have t1:=uf ao n c b o l w hl hc ak wl ha
 have hb64:bitLen (val l).toNat<=64 * n:=by
  have h1:=ee wl;rw[hl,bpow] at h1;have h2:=(bitLen_spec (val l).toNat).2;by_cases c:bitLen (val l).toNat<=64 * n
  ·exact c
  ·have h3:(val l).toNat≠0:=by intro e; rw[e] at c; simp[bitLen] at c
   have h4:=Nat.pow_le_pow_right (n:=2) (by decide) (show 64 * n<=bitLen (val l).toNat - 1 by omega);have:=h2 h3;omega
 obtain⟨m,hm⟩:∃ m:Nat,((bitLen (val l).toNat:Int) + 7) / 8=m:=⟨(bitLen (val l).toNat + 7) / 8,by omega⟩
 have ai:(bitLen (val l).toNat + 7) / 8=m:=by omega
 rw[ai] at am al ⊢;generalize bitLen (val l).toNat=L at *;have HM:=(show Hid ((L + 7) / 8=m) from ai)
 have hm8:m<=8 * n:=by omega
 clear ai;go_enter Tryz.func230,Tryz.ntmps230;go_wp2_with fail;refine t1.mono ?_
 rintro e w1 ⟨rfl,af⟩;have ah:=ha.keep af;have ad:=af.size;clear t1 ha;go_wp2_with (at_make; refine sj rfl _ _ rfl m _ _ rfl rfl (by omega) (by omega) (by omega) ?_; intro w2 aa ac hsz);have ae:=ah.keep ac
 have hne:l=[]\/b≠w1.heap.size:=by
  rcases ah.lt with e | e
  ·exact .inl e
  ·exact .inr (by omega)
 clear ah;go_loopw [12] (fun ti wr=>∃ (k:Nat) (r:List Int),k<=m/\ti=.int .i64 k/\oX (val l) m k r/\AtB wr (some ⟨w1.heap.size,0,none⟩) w1.heap.size 0 r/\Wr w1.heap.size 0 m w2 wr) (fun ti _=>m - (intOf ti).toNat)
 case atStart=>exact⟨0,_,Nat.zero_le _,rfl,⟨by simp,fun x hx=>by rw[List.eq_of_mem_replicate hx]; decide,fun i hi=>by omega⟩,aa.at,Wr.refl _ _ _ _⟩
 case round =>
  obtain⟨k,r,hk,rfl,hinv,ag,ab⟩:=hrel;have hlen:=hinv.len;by_cases hlt:k < m
  ·obtain⟨i,hi⟩:∃ i:Nat,(k:Int) / 8=i:=⟨k / 8,by omega⟩
   obtain⟨j,hj⟩:∃ j:Nat,(k:Int) % 8=j:=⟨k % 8,by omega⟩
   obtain⟨h,hh⟩:∃ h:Nat,(m:Int) - 1 - k=h:=⟨m - 1 - k,by omega⟩
   have hi1:(i:Int) < n:=by omega
   have hh1:(h:Int) < m:=by omega
   have hj1:j < 8:=by omega
   rcases ae.loc with e | rfl
   ·subst e; simp at hl; omega
   have hcz:=(ae.wr ab hne).cell i (by omega);have an:=ab.free (aa.free 0 m) h (by omega);have hco:=ag.cell h (by omega);rw[Nat.zero_add] at an hco;have hx:=wl.nth i;have aj:=byte_at wl k (by omega);rw[show k / 8=i from by omega,show k % 8=j from by omega] at aj
   have HS:Hid (oX (val l) m (k + 1) (r.set h (nth l i / 2 ^ (8 * j) % 256))):=by
    have:=hinv.step (x:=nth l i / 2 ^ (8 * j) % 256) hlt aj
    rwa [show m - 1 - k=h from by omega] at this
   have HA:=(show Hid _ from ag)
   have HW:=(show Hid _ from ab)
   clear ag ab hinv aa ae wl aj
   generalize nth l i=x at *;go_wp2_with fail;rw[Nat.mul_comm j 8];refine⟨⟨k + 1,_,by omega,by go_num,HS.out,?_,?_⟩,by simp[intOf]; omega⟩
   ·have:=HA.out.setCell (i:=h) (by omega) (x / 2 ^ (8 * j) % 256);rwa [Nat.zero_add] at this
   ·exact HW.out.setCell (by omega) (by omega) _
  ·have hkn:k=m:=by omega
   subst hkn;have HI:=hinv.done hV am al;have ap:=ab.free (aa.free 0 k);have HB:=(af.trans (ac.mono ad)).trans (ab.below ad);clear hinv aa ab ac ae af;go_wp2;go_ret;exact⟨_,r,rfl,FH.of hlen.symm (Nat.le_refl _) ad ag ap,HI,by omega,by omega,HB⟩
end
end
end Go.Proofs.YthfepflplbahkaaGreatDoor
