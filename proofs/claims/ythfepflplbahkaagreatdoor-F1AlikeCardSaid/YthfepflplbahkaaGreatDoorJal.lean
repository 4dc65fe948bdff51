import Derived.Test.YthfepflplbahkaaGreatDoorJak
import Derived.Test.YthfepflplbahkaaGreatDoorJaa
set_option maxRecDepth 100000
set_option maxHeartbeats 8000000
namespace Go.Proofs.YthfepflplbahkaaGreatDoor
section
namespace Ky
open Go.RowKit Go.Lib Pg
attribute [local go_sem] Oper.semAt_some
section
variable {k a b m0 m1 c d:Int}
theorem eight(l:List Int)(h:l.length=8):∃ a b c d e f g i,l=[a,b,c,d,e,f,g,i]:=by
 match l,h with
 | [a,b,c,d,e,f,g,i],_=>exact⟨a,b,c,d,e,f,g,i,rfl⟩
theorem mk_eq{n:Int}(hf:frm k=(n,m0,m1)):mk k a b=[m0] ++ (if 8 < n then be 8 (tn k a) else []) ++ (if m1=0 then [] else [m1]) ++ (if 16 < n then be 8 b else []):=by
 unfold mk mkb;rw[hf]
theorem ui{n:Int}(hf:frm k=(n,m0,m1))(hn:n≠0):mkE k a b=false<->(n<=8->a=0)/\(n<=16->b=0):=by
 unfold mkE;rw[hf];simp[hn];constructor
 ·rintro⟨d,c⟩;constructor
  ·intro h;by_cases e:a=0
   ·exact e
   ·have:=d e;omega
  ·intro h;by_cases e:b=0
   ·exact e
   ·have:=c e;omega
 ·rintro⟨d,c⟩;constructor
  ·intro e;by_cases h:n<=8
   ·exact absurd (d h) e
   ·omega
  ·intro e;by_cases h:n<=16
   ·exact absurd (c h) e
   ·omega
theorem rG:∀ k:Nat,k < 18->0 < k->((frm k).1=1/\(frm k).2.2=0)\/((frm k).1=9/\(frm k).2.2=0)\/((frm k).1=10/\(frm k).2.2≠0)\/((frm k).1=17/\(frm k).2.2=0)\/((frm k).1=18/\(frm k).2.2≠0):=by decide +kernel
theorem Dh:∀ k:Nat,k < 18->0 < k->(k=10->(frm k).1=17):=by decide +kernel
theorem tn_tn:tn k (tn k a)=a:=by
 unfold tn;split<;>omega
theorem jM(h:0<=a/\a < 18446744073709551616):0<=tn k a/\tn k a < 256 ^ 8:=by
 rw[show (256:Int) ^ 8=18446744073709551616 by decide];unfold tn;split<;>omega
theorem bv8(h:0<=a/\a < 18446744073709551616):bv (be 8 a)=a:=zU 8 h.1 (by rw[show (256:Int) ^ 8=18446744073709551616 by decide];exact h.2)
theorem bv8t(h:0<=a/\a < 18446744073709551616):tn k (bv (be 8 (tn k a)))=a:=by
 rw[zU 8 (jM h).1 (jM h).2,tn_tn]
theorem lA{k:Nat}(d:k < 18)(g:0 < k)(c:0≤a∧a < 18446744073709551616)(hb:0≤b∧b < 18446744073709551616)(e:mkE k a b=false) :
    frm k=fIn (mk k a b)∧rdA k (mk k a b)=a∧rdB (mk k a b)=b:=by
  obtain⟨⟨n, m0, m1⟩, hf⟩ : ∃ f, frm k = f := ⟨_, rfl⟩;have hF := rG k d g;rw[hf] at hF;simp only at hF;have e1 := bv8t (k := k) c;have e2 := bv8 hb;obtain⟨v, m, h, r, i, o, u, t, hx⟩:= eight (be 8 (tn k a)) (aN _ _);obtain⟨y0, y1, y2, y3, l, j, q, p, hy⟩:= eight (be 8 b) (aN _ _);rw[hx] at e1;rw[hy] at e2;rcases hF with⟨rfl, rfl⟩ | ⟨rfl, rfl⟩ | ⟨rfl, h1⟩ | ⟨rfl, rfl⟩ | ⟨rfl, h1⟩ <;>
    (obtain⟨hA, s⟩:= (ui hf (by decide)).1 e
     rw[mk_eq hf,hf,hx,hy]
     simp_all [fIn,rdA,rdB])
theorem mk_inj{k o:Nat}(i:k < 18)(p:0 < k)(g:o < 18)(m:0 < o)(j:0<=a/\a < 18446744073709551616)(hb:0<=b/\b < 18446744073709551616)(hc:0<=c/\c < 18446744073709551616)(l:0<=d/\d < 18446744073709551616)(n:mkE k a b=false)(f:mkE o c d=false)(h:mk k a b=mk o c d):k=o/\a=c/\b=d:=by
 obtain⟨f1,a1,b1⟩:=lA i p j hb n;obtain⟨f2,a2,b2⟩:=lA g m hc l f
 have e:k=o:=vx k i o g (by rw[f1,f2,h]);subst e;rw[h] at a1 b1;exact⟨rfl,by rw[<- a1,a2],by rw[<- b1,b2]⟩
theorem AR(ha:0<=a/\a < 256 ^ 8)(hb:0<=b/\b < 256 ^ 8):Lt (be 8 a) (be 8 b)<->a < b:=rQ 8 ha.1 ha.2 hb.1 hb.2
theorem be8_eq(ha:0<=a/\a < 256 ^ 8)(hb:0<=b/\b < 256 ^ 8):be 8 a=be 8 b<->a=b:=⟨be_inj ha.1 ha.2 hb.1 hb.2,fun h=>by rw[h]⟩
theorem kV{a:List Int}:¬ Lt a a:=lt_irrefl a
theorem DR{k:Nat}(s:k < 18)(w:0 < k)(x:0≤a∧a < 18446744073709551616)(hb:0≤b∧b < 18446744073709551616)(hc:0≤c∧c < 18446744073709551616)(y:0≤d∧d < 18446744073709551616)(z:mkE k a b=false)(i:mkE k c d=false) :
    Lt (mk k a b) (mk k c d) ↔ (if k=10 then c < a else a < c)∨(a=c∧b < d):=by
  obtain⟨⟨n,m0,m1⟩,hf⟩:∃ f,frm k=f:=⟨_,rfl⟩;have hF:=rG k s w;have t:=Dh k s w;rw[hf] at hF t;simp only at hF t;have v:=jM (k:=k) x;have p:=jM (k:=k) hc
  have o:(256:Int) ^ 8=18446744073709551616:=by decide
  have g:=AR v p;have q:=be8_eq v p;have r:=AR (a:=b) (b:=d) (by rw[o];exact hb) (by rw[o];exact y)
  have e : tn k a < tn k c ↔ if k = 10 then c < a else a < c := by
    unfold tn;by_cases h:k=10
    · subst h;simp
    · rw[if_neg (by omega),if_neg (by omega),if_neg h]
  have u:tn k a=tn k c ↔ a=c:=by
    unfold tn;split <;> omega
  have m:(be 8 (tn k a)).length=(be 8 (tn k c)).length:=by rw[aN,aN]
  rcases hF with⟨rfl, rfl⟩ | ⟨rfl, rfl⟩ | ⟨rfl, h1⟩ | ⟨rfl, rfl⟩ | ⟨rfl, h1⟩ <;>
    (obtain⟨hA, j⟩:= (ui hf (by decide)).1 z
     obtain⟨hC,l⟩:= (ui hf (by decide)).1 i
     rw[mk_eq hf,mk_eq hf])
  · have:=hA (by decide);have:=j (by decide);have:=hC (by decide);have:=l (by decide)
    subst_vars
    simp[kV]
  · have:=j (by decide);have:=l (by decide)
    subst_vars
    simp only[if_pos (show (8:Int) < 9 by decide),if_neg (show ¬ (16:Int) < 9 by decide),if_true,List.append_nil];rw[fx,g,e];simp
  · have:=j (by decide);have:=l (by decide)
    subst_vars
    simp only[if_pos (show (8:Int) < 10 by decide),if_neg (show ¬ (16:Int) < 10 by decide),if_neg h1,List.append_nil];rw[List.append_assoc,List.append_assoc,fx,fG m,g,e];simp[kV]
  · simp only[if_pos (show (8:Int) < 17 by decide),if_pos (show (16:Int) < 17 by decide),if_true,List.append_nil]
    simp only[List.append_assoc];rw[fx,fG m,g,e,q,u,r]
  · simp only[if_pos (show (8:Int) < 18 by decide),if_pos (show (16:Int) < 18 by decide),if_neg h1]
    simp only[List.append_assoc];rw[fx,fG m,fx,g,e,q,u,r]
theorem jX(k a b:Int):(mk k a b).length<=18:=by
 unfold mk;rw[List.length_append];have:=lC (frm k) (tn k a);split
 ·rw[aN];omega
 ·simp;omega
end
end Ky
end
section
open Go.RowKit Lim
section
variable {ops:Array Oper} {Q:Exit->Act->World->Prop} {S:World->Prop} {fuel:Nat} {listed:Array Bool} {a:Act} {w:World}
section
variable {Qc:Ending->World->Prop}
def gN(ops:Array Oper)(listed:Array Bool)(a:Act)(i:Nat)(d:Option Tmp):Bool :=
 Region.noSelect ops && Region.free .any ops listed i && (Region.ready .any ops listed).contains i && decide (i < ops.size) && Region.wanted (ops.getD i default) (yielded ops a.tmps) && decide ((ops.getD i default).dst=d)
def gF(ops:Array Oper)(listed:Array Bool)(a:Act)(i:Nat)(d:Option Tmp):Bool :=
 decide (Region.ready .any ops listed=[i]) && decide (i < ops.size) && Region.wanted (ops.getD i default) (yielded ops a.tmps) && decide ((ops.getD i default).dst=d)
theorem bP{i:Nat}(h:i < ops.size):ops[i]?=some (ops.getD i default):=by
 simp[Array.getD,h]
theorem ai(i:Nat)(d:Option Tmp)(v:Value)(hc:gN ops listed a i d=true)(hy:∀ w',S w'->(execOp a.eval (ops.getD i default)).run Tryz.prog w'=.ok (.value v) w')(f:∀ c a w,Q (.panic c) (a.put d v) w->Q (.panic c) a w)(hS:S w)(h:wpAnyH Tryz.prog .any ops Q S fuel (listed.setIfInBounds i true) (a.put d v) w):wpAnyH Tryz.prog .any ops Q S (fuel+1) listed a w:=by
 simp only[gN,Bool.and_eq_true,decide_eq_true_eq] at hc;obtain⟨⟨⟨⟨⟨j,b⟩,g⟩,k⟩,l⟩,e⟩:=hc;subst e;exact wpAnyH_take (bP k) j b g f (.inl ⟨l,hy⟩) hS h
theorem aP(i:Nat)(d:Option Tmp)(v:Value)(T:TypeId)(k g o:Nat)(hc:gN ops listed a i d=true)(e:(ops.getD i default).op=.load T (.tmp k))(l:a.eval (.tmp k)=.pointer (some ⟨g,o,none⟩))(f:∀ w',S w'->(loadVar T ⟨g,o,none⟩).run Tryz.prog w'=.ok v w')(j:∀ c a w,Q (.panic c) (a.put d v) w->Q (.panic c) a w)(hS:S w)(h:wpAnyH Tryz.prog .any ops Q S fuel (listed.setIfInBounds i true) (a.put d v) w):wpAnyH Tryz.prog .any ops Q S (fuel+1) listed a w :=
 ai i d v hc (fun w' b=>by
  have:=f w' b;simp only[execOp,e,l]
  simp[Instr.loadAt,Instr.sureAddr,Result.andThen,this]) j hS h
theorem bN(i:Nat)(d:Option Tmp)(f:FuncId)(args:Array Value)(hc:gF ops listed a i d=true)(c:(execOp a.eval (ops.getD i default)).run Tryz.prog w=.ok (.enter f args) w)(b:Calls Tryz.prog f args w Qc)(m:∀ e w',Qc e w'->∃ v,e=.returned v/\S w'/\wpAnyH Tryz.prog .any ops Q S fuel (listed.setIfInBounds i true) (a.put d v) w') :
  wpAnyH Tryz.prog .any ops Q S (fuel+1) listed a w:=by
 simp only[gF,Bool.and_eq_true,decide_eq_true_eq] at hc;obtain⟨⟨⟨o,l⟩,p⟩,h⟩:=hc;subst h;refine wpAnyH_all o (by simp) fun j k=>?_
 obtain rfl:j=i:=by simpa using k
 refine wpOp_step (bP l) fun K n=>?_
 rw[if_pos p];unfold Oper.wp;rw[c];refine b.mono fun e w' he=>?_
 obtain⟨v,rfl,g,hw⟩:=m e w' he;exact n _ _ ⟨g,hw⟩
theorem bH(hr:Region.ready .any ops listed=[])(h:Q .normal a w):wpAnyH Tryz.prog .any ops Q S fuel listed a w:=wpAnyH_done hr h fuel
theorem bW{id:Nat}(hm:Tryz.prog.follows .mixedOrders=true)(hS:S w.drew)(h:wpAnyH Tryz.prog .any ops Q S ops.size (Array.replicate ops.size false) a w.drew):(Code.region id ops true).wp Tryz.prog Q a w :=
 wp_region_held_drew hm hS fun _=>h
end
end
end
section
open Go.RowKit Lim
section
variable {w w':World}{g:Nat}{cs ds:List Value}
structure Box(w:World)(g:Nat)(cs:List Value)(t:TypeId):Prop where
 blk:w.heap[g]?=some (.cells cs.toArray t (0,0))
theorem Box.lt{t:TypeId}(h:Box w g cs t):g < w.heap.size:=lt_of_block h.blk
theorem Box.keep{t:TypeId}(h:Box w g cs t)(hb:Below w.heap.size w w'):Box w' g cs t:=⟨by rw[hb.block g h.lt];exact h.blk⟩
theorem Box.drew{t:TypeId}(h:Box w g cs t):Box w.drew g cs t:=⟨h.blk⟩
theorem iz(w:World)(cs:List Value)(t:TypeId):Box (w.alloc (.cells cs.toArray t)) w.heap.size cs t:=⟨by
 show (w.heap.push _)[w.heap.size]?=_
 rw[Array.getElem?_push_size]⟩
theorem Box.row{t:TypeId}(h:Box w g cs t):Box (w.setRow g ds.toArray) g ds t:=⟨by rw[setRow_heap w g _ _ _ _ h.blk]⟩
theorem om{B:Nat}(h:Below B w w')(hB:B<=g)(ds:Array Value):Below B w (w'.setRow g ds) :=
 h.trans ⟨rfl,rfl,rfl,by simp[World.setRow],fun k hk=>setRow_other w' g k ds (by omega)⟩
theorem Box.off{g':Nat}{t:TypeId}(h:Box w g cs t)(hne:g≠g')(hw:∀ k,k≠g'->w'.heap[k]?=w.heap[k]?):Box w' g cs t:=⟨by rw[hw g hne];exact h.blk⟩
end
section
variable {ops:Array Oper} {Q:Exit->Act->World->Prop} {S:World->Prop} {fuel:Nat} {listed:Array Bool} {a:Act} {w:World}
section
variable {rs:List Nat}
def eW(ops:Array Oper)(a:Act)(i:Nat)(d:Option Tmp):Bool :=
 decide (i < ops.size) && Region.wanted (ops.getD i default) (yielded ops a.tmps) && decide ((ops.getD i default).dst=d)
theorem aK(rs:List Nat)(hr:Region.ready .any ops listed=rs)(hne:rs≠[])(h:AllReadyH Tryz.prog .any ops Q S fuel listed a w rs):wpAnyH Tryz.prog .any ops Q S (fuel+1) listed a w:=wpAnyH_ready hr hne h
theorem aW:AllReadyH Tryz.prog .any ops Q S fuel listed a w []:=AllReadyH.nil
theorem bI(i:Nat)(d:Option Tmp)(v:Value)(w1:World)(hc:eW ops a i d=true)(b:(execOp a.eval (ops.getD i default)).run Tryz.prog w=.ok (.value v) w1)(c:S w1)(h:wpAnyH Tryz.prog .any ops Q S fuel (listed.setIfInBounds i true) (a.put d v) w1)(hs:AllReadyH Tryz.prog .any ops Q S fuel listed a w rs):AllReadyH Tryz.prog .any ops Q S fuel listed a w (i :: rs):=by
 simp only[eW,Bool.and_eq_true,decide_eq_true_eq] at hc;obtain⟨⟨f,j⟩,e⟩:=hc;subst e;refine AllReadyH.cons (bP f) (fun K g=>?_) hs;rw[if_pos j];unfold Oper.wp;rw[b]
 show K (a.put (ops.getD i default).dst v) w1
 exact g.out _ _ c fun _=>h
theorem dq(i:Nat)(w1:World)(hc:eW ops a i none=true)(b:(execOp a.eval (ops.getD i default)).run Tryz.prog w=.ok .skip w1)(c:S w1)(h:wpAnyH Tryz.prog .any ops Q S fuel (listed.setIfInBounds i true) (a.put none undef) w1)(hs:AllReadyH Tryz.prog .any ops Q S fuel listed a w rs):AllReadyH Tryz.prog .any ops Q S fuel listed a w (i :: rs):=by
 simp only[eW,Bool.and_eq_true,decide_eq_true_eq] at hc;obtain⟨⟨e,g⟩,d⟩:=hc;refine AllReadyH.cons (bP e) (fun K f=>?_) hs;rw[if_pos g];unfold Oper.wp;rw[b]
 show K (a.put (ops.getD i default).dst undef) w1
 rw[d];exact f.out _ _ c fun _=>h
theorem qJ(i:Nat)(d:Option Tmp)(T:TypeId)(cs:List Value)(hc:eW ops a i d=true)(b:(execOp a.eval (ops.getD i default)).run Tryz.prog w=.ok (.value (.pointer (some ⟨w.heap.size,0,none⟩))) (w.alloc (.cells cs.toArray T)))(c:∀ V,Box V w.heap.size cs T->Below w.heap.size w V->S V/\wpAnyH Tryz.prog .any ops Q S fuel (listed.setIfInBounds i true) (a.put d (.pointer (some ⟨w.heap.size,0,none⟩))) V)(hs:AllReadyH Tryz.prog .any ops Q S fuel listed a w rs):AllReadyH Tryz.prog .any ops Q S fuel listed a w (i :: rs):=by
 obtain⟨f,e⟩:=c _ (iz w cs T) (ae w _);exact bI i d _ _ hc b f e hs
end
end
end
section
open Go.RowKit Lim
section
variable {w:World}{g m:Nat}{l r:List Int}{ops:Array Oper}{rest:List Oper}{V:Int}{ao:Option Addr}
theorem lM:(Tryz.prog.info? 5).map (fun i=>(i.zero,i.size,i.bytes))=some (some (.int .u8 0),1,1):=by kernel_rfl
theorem cE:Tryz.prog.underlying 96=some (.slice 5):=by kernel_rfl
def s8(w:World)(g:Nat)(l:List Int):Prop:=w.heap[g]?=some (.cells (l.map (Value.int .u8)).toArray 5 (0,0))
theorem s8.at(h:s8 w g l):AtB w (some ⟨g,0,none⟩) g 0 l :=
 ⟨.inr rfl,fun i hi=>by
  unfold s8 at h;simp only[World.cell?,h]
  simp[bV hi,hi]⟩
theorem s8.free(h:s8 w g l)(o n:Nat):dE w g o n:=by
 intro i _;unfold s8 at h;simp[World.frozen?,h]
theorem vF(n:Nat):madeCells (Value.int .u8 0).cells n=((List.replicate n 0).map (Value.int .u8)).toArray:=by
 apply Array.ext
 ·simp[size_madeCells]
 ·intro j a b;simp[madeCells,Value.cells,Nat.mod_one]
theorem pI{o:Oper}{a:Act}{Q:Exit->Act->World->Prop}(h:o.guard=none)(l c:Operand)(d:o.op=Op.makeSlice 96 l c)(n:Nat)(L C:Int)(g:a.eval l=.int .i64 L)(hc:a.eval c=.int .i64 C)(hL:L=(n:Int))(hC:C=(n:Int))(hn:n<=17592186044416)(j:∀ w',s8 w' w.heap.size (List.replicate n 0)->Below w.heap.size w w'->w'.heap.size=w.heap.size+1->wpList Tryz.prog ops Q rest (a.put o.dst (.slice (some ⟨w.heap.size,0,none⟩) n n)) w') :
  wpList Tryz.prog ops Q (o :: rest) a w:=by
 obtain⟨i,hi,f,hs,hb⟩:=info_parts lM;refine wpList_plain h fun K e=>?_
 have b:=run_make (P:=Tryz.prog) w 96 5 i (.int .u8 0) cE hi f .i64 .i64 (n:Int) (n:Int) (by omega) (by omega) (by rw[hb];omega) (by omega);subst hL;subst hC;unfold Oper.wp;simp only[execOp,d,g,hc];simp[b,Result.andThen];refine e _ _ (j _ ?_ ?_ ?_)
 ·show (w.heap.push _)[w.heap.size]?=_
  rw[Array.getElem?_push_size,hs,Nat.mul_one,vF]
 ·exact(Below.refl _ _).alloc (Nat.le_refl _) _
 ·simp
theorem mO(V:Int)(d:0<=V)(k:Nat):V % 256 ^ (k+1)=(V / 256 ^ k % 256) * 256 ^ k+V % 256 ^ k:=by
 obtain⟨v,rfl⟩:=Int.eq_ofNat_of_zero_le d
 have e:∀ j:Nat,(256:Int) ^ j=((256 ^ j:Nat):Int):=fun j=>by rw[Int.natCast_pow];rfl
 rw[e,e];have:=Nat.mod_mul (x:=v) (a:=256 ^ k) (b:=256);rw[<- Nat.pow_succ] at this
 have c:((v % 256 ^ (k+1):Nat):Int)=((v % 256 ^ k+256 ^ k * (v / 256 ^ k % 256):Nat):Int):=by rw[this]
 rw[Int.natCast_add,Int.natCast_mul] at c;simp only[Int.natCast_emod,Int.natCast_ediv] at c;rw[c,Int.add_comm,Int.mul_comm];rfl
theorem kY(a:0<=V)(h:∀ i,i < r.length->nth r (r.length - 1 - i)=V / 256 ^ i % 256):∀ k,k<=r.length->bO (r.drop (r.length - k))=V % 256 ^ k
 | 0,_=>by rw[Nat.sub_zero,List.drop_length];simp[bO]
 | k + 1,hk=>by
  have ih:=kY a h k (by omega);rw[show r.length - (k+1)=r.length - 1 - k from by omega,nT (by omega),show r.length - 1 - k+1=r.length - k from by omega,ih,h k (by omega),show r.length - 1 - (r.length - 1 - k)=k from by omega,mO V a k]
theorem byte_at(wl:Words l)(i:Nat)(hi:i / 8 < l.length):nth l (i / 8) / 2 ^ (8 * (i % 8)) % 256=val l / 256 ^ i % 256:=by
 have e2:=bF l (i / 8) (by omega);rw[List.drop_eq_getElem_cons hi,val,<- bV hi] at e2;have b:=aL (wl.take (i / 8));have a:=dy (wl.take (i / 8));rw[List.length_take,Nat.min_eq_left (by omega)] at a;have c:=pow_pos (i / 8)
 have hS:(0:Int) < 2 ^ (8 * (i % 8)):=Int.pow_pos (by decide)
 have d:(18446744073709551616:Int)=2 ^ (8 * (i % 8)) * (256 * 2 ^ (56 - 8 * (i % 8))):=by
  rw[show (256:Int)=2 ^ 8 from rfl,<- Int.pow_add,<- Int.pow_add,show 8 * (i % 8)+(8+(56 - 8 * (i % 8)))=64 from by omega];rfl
 rw[jU,<- Int.ediv_ediv_of_nonneg (Int.le_of_lt c),e2,Int.add_mul_ediv_left _ _ (by omega),Int.ediv_eq_zero_of_lt b a,Int.zero_add];generalize nth l (i / 8)=x at *;generalize val (l.drop (i / 8+1))=y at *
 conv=>rhs;rw[d]
 rw[Int.mul_assoc,Int.add_mul_ediv_left _ _ (by omega),Int.mul_assoc,Int.add_mul_emod_self_left]
structure l9(V:Int)(m k:Nat)(r:List Int):Prop where
 len:r.length=m
 oct:bj r
 dig:∀ i,i < k->nth r (m - 1 - i)=V / 256 ^ i % 256
theorem l9.step{k:Nat}{x:Int}(h:l9 V m k r)(b:k < m)(hx:x=V / 256 ^ k % 256):l9 V m (k+1) (r.set (m - 1 - k) x):=by
 have a:=h.len;refine⟨by simp[a],fun y hy=>?_,fun i hi=>?_⟩
 ·rcases List.mem_or_eq_of_mem_set hy with e | e
  ·exact h.oct y e
  ·subst e;rw[hx];exact⟨Int.emod_nonneg _ (by decide),Int.emod_lt_of_pos _ (by decide)⟩
 ·rw[dD (by omega)];by_cases e:i=k
  ·subst e;rw[if_pos rfl];exact hx
  ·rw[if_neg (by omega)];exact h.dig i (by omega)
theorem l9.done(h:l9 V m m r)(c:0<=V)(d:V < 256 ^ m)(k:m≠0->256 ^ (m - 1)<=V):IsB r V:=by
 have b:=h.len;have hv:=kY c (r:=r) (fun i hi=>by rw[b];exact h.dig i (by omega)) m (by omega);rw[b,Nat.sub_self,List.drop_zero,Int.emod_eq_of_lt c d] at hv;refine⟨h.oct,fun a=>?_,hv⟩
 have hm:m≠0:=fun e=>a (List.eq_nil_of_length_eq_zero (by omega))
 have g:=h.dig (m - 1) (by omega);rw[show m - 1 - (m - 1)=0 from by omega] at g;rw[g]
 have f:(0:Int) < 256 ^ (m - 1):=Int.pow_pos (by decide)
 have q1:1<=V / 256 ^ (m - 1):=by rw[Int.le_ediv_iff_mul_le f];have:=k hm;omega
 have j:V / 256 ^ (m - 1) < 256:=by
  rw[Int.ediv_lt_iff_lt_mul f,Int.mul_comm,<- Int.pow_succ,show (m - 1).succ=m from by omega];exact d
 rw[Int.emod_eq_of_lt (by omega) j];omega
theorem oH(b:0<=V):V < 256 ^ ((bitLen V.toNat+7) / 8)/\((bitLen V.toNat+7) / 8≠0->256 ^ ((bitLen V.toNat+7) / 8 - 1)<=V):=by
 obtain⟨v,rfl⟩:=Int.eq_ofNat_of_zero_le b;rw[Int.toNat_natCast];have hs:=bitLen_spec v
 have e:∀ j:Nat,(256:Int) ^ j=((2 ^ (8 * j):Nat):Int):=fun j=>by rw[Nat.pow_mul,Int.natCast_pow];rfl
 rw[e,e];constructor
 ·have:=Nat.pow_le_pow_right (n:=2) (by decide) (show bitLen v<=8 * ((bitLen v+7) / 8) by omega);have c:=hs.1;omega
 ·intro hm
  have a:v≠0:=by intro e;subst e;simp[bitLen] at hm
  have:=Nat.pow_le_pow_right (n:=2) (by decide) (show 8 * ((bitLen v+7) / 8 - 1)<=bitLen v - 1 by omega);have c:=hs.2 a;omega
theorem Bm.of{w':World}{n c b o:Nat}(hn:n=l.length)(h1:n<=c)(h2:w.heap.size<=b)(h3:AtB w' ao b o l)(h4:dE w' b o n):Bm w w' (.slice ao n c) l:=by
 subst hn;exact⟨ao,b,o,c,rfl,h1,h2,h3,h4⟩
theorem xe(ao:Option Addr)(n c b o:Nat)(l:List Int)(w:World)(H:l.length=n)(hc:n<=c)(B:n<=1099511627776)(wl:Words l)(F:At w ao b o l) :
  Calls Tryz.prog 230 #[.slice ao n c] w fun e w'=>∃ v r,e=.returned v/\Bm w w' v r/\IsB r (val l)/\r.length=(bitLen (val l).toNat+7) / 8/\r.length<=8 * n/\Below w.heap.size w w':=by
 have O:=aL wl;obtain⟨A,C⟩:=oH O;have t1:=rC ao n c b o l w H hc B wl F
 have P:bitLen (val l).toNat<=64 * n:=by
  have h1:=dy wl;rw[H,bpow] at h1;have h2:=(bitLen_spec (val l).toNat).2;by_cases c:bitLen (val l).toNat<=64 * n
  ·exact c
  ·have T:(val l).toNat≠0:=by intro e; rw[e] at c; simp[bitLen] at c
   have h4:=Nat.pow_le_pow_right (n:=2) (by decide) (show 64 * n<=bitLen (val l).toNat - 1 by omega);have:=h2 T;omega
 obtain⟨m,hm⟩:∃ m:Nat,((bitLen (val l).toNat:Int)+7) / 8=m:=⟨(bitLen (val l).toNat+7) / 8,by omega⟩
 have u:(bitLen (val l).toNat+7) / 8=m:=by omega
 rw[u] at A C ⊢;generalize bitLen (val l).toNat=L at *;have HM:=(show Hid ((L+7) / 8=m) from u)
 have X:m<=8 * n:=by omega
 clear u;go_enter Tryz.func230,Tryz.ntmps230;go_wp2_with fail;refine t1.mono ?_
 rintro e D ⟨rfl,t⟩;have y:=F.keep t;have p:=t.size;clear t1 F;go_wp2_with (at_make;refine pI rfl _ _ rfl m _ _ rfl rfl (by omega) (by omega) (by omega) ?_;intro W d g hsz);have s:=y.keep g
 have M:l=[]\/b≠D.heap.size:=by
  rcases y.lt with e | e
  ·exact .inl e
  ·exact .inr (by omega)
 clear y;go_loopw [12] (fun E wr=>∃ (k:Nat) (r:List Int),k<=m/\E=.int .i64 k/\l9 (val l) m k r/\AtB wr (some ⟨D.heap.size,0,none⟩) D.heap.size 0 r/\Wr D.heap.size 0 m W wr) (fun E _=>m - (intOf E).toNat)
 case atStart=>exact⟨0,_,Nat.zero_le _,rfl,⟨by simp,fun x hx=>by rw[List.eq_of_mem_replicate hx];decide,fun i hi=>by omega⟩,d.at,Wr.refl _ _ _ _⟩
 case round =>
  obtain⟨k,r,hk,rfl,hinv,q,f⟩:=hrel;have hlen:=hinv.len;by_cases K:k < m
  ·obtain⟨i,hi⟩:∃ i:Nat,(k:Int) / 8=i:=⟨k / 8,by omega⟩
   obtain⟨j,hj⟩:∃ j:Nat,(k:Int) % 8=j:=⟨k % 8,by omega⟩
   obtain⟨h,hh⟩:∃ h:Nat,(m:Int) - 1 - k=h:=⟨m - 1 - k,by omega⟩
   have hi1:(i:Int) < n:=by omega
   have R:(h:Int) < m:=by omega
   have V:j < 8:=by omega
   rcases s.loc with e | rfl
   ·subst e;simp at H;omega
   have Z:=(s.wr f M).cell i (by omega);have J:=f.free (d.free 0 m) h (by omega);have G:=q.cell h (by omega);rw[Nat.zero_add] at J G;have hx:=wl.nth i;have z:=byte_at wl k (by omega);rw[show k / 8=i from by omega,show k % 8=j from by omega] at z
   have Q:Hid (l9 (val l) m (k+1) (r.set h (nth l i / 2 ^ (8 * j) % 256))):=by
    have:=hinv.step (x:=nth l i / 2 ^ (8 * j) % 256) K z
    rwa [show m - 1 - k=h from by omega] at this
   have U:=(show Hid _ from q)
   have HW:=(show Hid _ from f)
   clear q f hinv d s wl z
   generalize nth l i=x at *;go_wp2_with fail;rw[Nat.mul_comm j 8];refine⟨⟨k+1,_,by omega,by go_num,Q.out,?_,?_⟩,by simp[intOf];omega⟩
   ·have:=U.out.setCell (i:=h) (by omega) (x / 2 ^ (8 * j) % 256);rwa [Nat.zero_add] at this
   ·exact HW.out.setCell (by omega) (by omega) _
  ·have I:k=m:=by omega
   subst I;have S:=hinv.done O A C;have N:=f.free (d.free 0 k);have Y:=(t.trans (g.mono p)).trans (f.below p);clear hinv d f g s t;go_wp2;go_ret;exact⟨_,r,rfl,Bm.of hlen.symm (Nat.le_refl _) p q N,S,by omega,by omega,Y⟩
end
end
end Go.Proofs.YthfepflplbahkaaGreatDoor
