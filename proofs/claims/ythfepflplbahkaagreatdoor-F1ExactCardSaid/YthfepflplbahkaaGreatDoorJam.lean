/- Several texts, joined: KyX, Reg, RegA, ToB. -/
import Derived.Test.YthfepflplbahkaaGreatDoorJal
import Derived.Test.YthfepflplbahkaaGreatDoorJaa
import Derived.Deep.RegionHeld3
import Derived.Laws.Tables
set_option maxRecDepth 100000
set_option maxHeartbeats 8000000
namespace Go.Proofs.YthfepflplbahkaaGreatDoor
section
namespace Ky
open Go.RowKit Go.Lib Pg
section
variable {k a b m0 m1 c d:Int}
attribute [local go_sem] Oper.semAt_some
theorem eight(l:List Int)(h:l.length=8):∃ a b c d e f g i,l=[a,b,c,d,e,f,g,i]:=by
 match l,h with
 | [a,b,c,d,e,f,g,i],_=>exact⟨a,b,c,d,e,f,g,i,rfl⟩
theorem mk_eq{n:Int}(hf:frm k=(n,m0,m1)):mk k a b=[m0] ++ (if 8 < n then be 8 (tn k a) else []) ++ (if m1=0 then [] else [m1]) ++ (if 16 < n then be 8 b else []):=by
 unfold mk mkb;rw[hf]
theorem sA{n:Int}(hf:frm k=(n,m0,m1))(hn:n≠0):mkE k a b=false<->(n<=8->a=0)/\(n<=16->b=0):=by
 unfold mkE;rw[hf];simp[hn];constructor
 ·rintro⟨h1,h2⟩;constructor
  ·intro h;by_cases e:a=0
   ·exact e
   ·have:=h1 e; omega
  ·intro h;by_cases e:b=0
   ·exact e
   ·have:=h2 e; omega
 ·rintro⟨h1,h2⟩;constructor
  ·intro e;by_cases h:n<=8
   ·exact absurd (h1 h) e
   ·omega
  ·intro e;by_cases h:n<=16
   ·exact absurd (h2 h) e
   ·omega
theorem qn:∀ k:Nat,k < 18->0 < k->((frm k).1=1/\(frm k).2.2=0)\/((frm k).1=9/\(frm k).2.2=0)\/((frm k).1=10/\(frm k).2.2≠0)\/((frm k).1=17/\(frm k).2.2=0)\/((frm k).1=18/\(frm k).2.2≠0):=by decide +kernel
theorem CI:∀ k:Nat,k < 18->0 < k->(k=10->(frm k).1=17):=by decide +kernel
theorem tn_tn:tn k (tn k a)=a:=by
 unfold tn;split<;>omega
theorem jS(h:0<=a/\a < 18446744073709551616):0<=tn k a/\tn k a < 256 ^ 8:=by
 rw[show (256:Int) ^ 8=18446744073709551616 by decide];unfold tn;split<;>omega
theorem bv8(h:0<=a/\a < 18446744073709551616):bv (be 8 a)=a:=yS 8 h.1 (by rw[show (256:Int) ^ 8=18446744073709551616 by decide]; exact h.2)
theorem bv8t(h:0<=a/\a < 18446744073709551616):tn k (bv (be 8 (tn k a)))=a:=by
 rw[yS 8 (jS h).1 (jS h).2,tn_tn]
theorem lH{k:Nat}(hk : k < 18)(h0 : 0 < k)(ha : 0 ≤ a ∧ a < 18446744073709551616)(hb : 0 ≤ b ∧ b < 18446744073709551616)(hE : mkE k a b = false) :
    frm k = fIn (mk k a b) ∧ rdA k (mk k a b) = a ∧ rdB (mk k a b) = b := by
  obtain⟨⟨n, m0, m1⟩, hf⟩ : ∃ f, frm k = f := ⟨_, rfl⟩;have hF := qn k hk h0;rw[hf] at hF;simp only at hF;have e1 := bv8t (k := k) ha;have e2 := bv8 hb;obtain⟨x0, x1, x2, x3, x4, x5, x6, x7, hx⟩:= eight (be 8 (tn k a)) (aQ _ _);obtain⟨y0, y1, y2, y3, y4, y5, y6, y7, hy⟩:= eight (be 8 b) (aQ _ _);rw[hx] at e1;rw[hy] at e2;rcases hF with⟨rfl, rfl⟩ | ⟨rfl, rfl⟩ | ⟨rfl, h1⟩ | ⟨rfl, rfl⟩ | ⟨rfl, h1⟩ <;>
    (obtain⟨hA, hB⟩:= (sA hf (by decide)).1 hE
     rw[mk_eq hf, hf, hx, hy];simp_all [fIn, rdA, rdB])
theorem mk_inj{k o:Nat}(hk:k < 18)(h0:0 < k)(ho:o < 18)(o0:0 < o)(ha:0<=a/\a < 18446744073709551616)(hb:0<=b/\b < 18446744073709551616)(hc:0<=c/\c < 18446744073709551616)(hd:0<=d/\d < 18446744073709551616)(hE:mkE k a b=false)(hE2:mkE o c d=false)(h:mk k a b=mk o c d):k=o/\a=c/\b=d:=by
 obtain⟨f1,a1,b1⟩:=lH hk h0 ha hb hE;obtain⟨f2,a2,b2⟩:=lH ho o0 hc hd hE2
 have e:k=o:=u6 k hk o ho (by rw[f1,f2,h]);subst e;rw[h] at a1 b1;exact⟨rfl,by rw[<- a1,a2],by rw[<- b1,b2]⟩
theorem xy(ha:0<=a/\a < 256 ^ 8)(hb:0<=b/\b < 256 ^ 8):Lt (be 8 a) (be 8 b)<->a < b:=qo 8 ha.1 ha.2 hb.1 hb.2
theorem be8_eq(ha:0<=a/\a < 256 ^ 8)(hb:0<=b/\b < 256 ^ 8):be 8 a=be 8 b<->a=b:=⟨be_inj ha.1 ha.2 hb.1 hb.2,fun h=>by rw[h]⟩
theorem lh{a:List Int}:¬ Lt a a:=lt_irrefl a
theorem DU{k:Nat}(hk : k < 18)(h0 : 0 < k)(ha : 0 ≤ a ∧ a < 18446744073709551616)(hb : 0 ≤ b ∧ b < 18446744073709551616)(hc : 0 ≤ c ∧ c < 18446744073709551616)(hd : 0 ≤ d ∧ d < 18446744073709551616)(hE : mkE k a b = false)(hE2 : mkE k c d = false) :
    Lt (mk k a b) (mk k c d) ↔ (if k = 10 then c < a else a < c) ∨ (a = c ∧ b < d) := by
  obtain⟨⟨n, m0, m1⟩, hf⟩ : ∃ f, frm k = f := ⟨_, rfl⟩;have hF := qn k hk h0;have hT := CI k hk h0;rw[hf] at hF hT;simp only at hF hT;have tA := jS (k := k) ha;have tC := jS (k := k) hc
  have e8 : (256 : Int) ^ 8 = 18446744073709551616 := by decide
  have L1 := xy tA tC;have L2 := be8_eq tA tC;have L3 := xy (a := b) (b := d) (by rw[e8]; exact hb) (by rw[e8]; exact hd)
  have T1 : tn k a < tn k c ↔ if k = 10 then c < a else a < c := by
    unfold tn;by_cases h : k = 10
    · subst h; simp
    · rw[if_neg (by omega), if_neg (by omega), if_neg h]
  have T2 : tn k a = tn k c ↔ a = c := by
    unfold tn;split <;> omega
  have N8 : (be 8 (tn k a)).length = (be 8 (tn k c)).length := by rw[aQ, aQ]
  rcases hF with⟨rfl, rfl⟩ | ⟨rfl, rfl⟩ | ⟨rfl, h1⟩ | ⟨rfl, rfl⟩ | ⟨rfl, h1⟩ <;>
    (obtain⟨hA, hB⟩:= (sA hf (by decide)).1 hE
     obtain⟨hC, hD⟩:= (sA hf (by decide)).1 hE2;rw[mk_eq hf, mk_eq hf])
  · have := hA (by decide); have := hB (by decide); have := hC (by decide); have := hD (by decide)
    subst_vars
    simp[lh]
  · have := hB (by decide); have := hD (by decide)
    subst_vars
    simp only[if_pos (show (8 : Int) < 9 by decide), if_neg (show ¬ (16 : Int) < 9 by decide), if_true, List.append_nil];rw[fG, L1, T1];simp
  · have := hB (by decide); have := hD (by decide)
    subst_vars
    simp only[if_pos (show (8 : Int) < 10 by decide), if_neg (show ¬ (16 : Int) < 10 by decide), if_neg h1, List.append_nil];rw[List.append_assoc, List.append_assoc, fG, fE N8, L1, T1];simp[lh]
  · simp only[if_pos (show (8 : Int) < 17 by decide), if_pos (show (16 : Int) < 17 by decide), if_true, List.append_nil]
    simp only[List.append_assoc];rw[fG, fE N8, L1, T1, L2, T2, L3]
  · simp only[if_pos (show (8 : Int) < 18 by decide), if_pos (show (16 : Int) < 18 by decide), if_neg h1]
    simp only[List.append_assoc];rw[fG, fE N8, fG, L1, T1, L2, T2, L3]
theorem j8(k a b:Int):(mk k a b).length<=18:=by
 unfold mk;rw[List.length_append];have:=eJ (frm k) (tn k a);split
 ·rw[aQ]; omega
 ·simp; omega
end
end Ky
end
section
open Go.RowKit Lim
section
variable {ops:Array Oper} {Q:Exit->Act->World->Prop} {S:World->Prop} {fuel:Nat} {listed:Array Bool} {a:Act} {w:World}
section
variable {Qc:Ending->World->Prop}
def gU(ops:Array Oper)(listed:Array Bool)(a:Act)(i:Nat)(d:Option Tmp):Bool :=
 Region.noSelect ops && Region.free .any ops listed i && (Region.ready .any ops listed).contains i && decide (i < ops.size) && Region.wanted (ops.getD i default) (yielded ops a.tmps) && decide ((ops.getD i default).dst=d)
def gu(ops:Array Oper)(listed:Array Bool)(a:Act)(i:Nat)(d:Option Tmp):Bool :=
 decide (Region.ready .any ops listed=[i]) && decide (i < ops.size) && Region.wanted (ops.getD i default) (yielded ops a.tmps) && decide ((ops.getD i default).dst=d)
theorem bT{i:Nat}(h:i < ops.size):ops[i]? = some (ops.getD i default):=by
 simp[Array.getD,h]
theorem aj(i:Nat)(d:Option Tmp)(v:Value)(hc:gU ops listed a i d=true)(hy:∀ w',S w'->(execOp a.eval (ops.getD i default)).run Tryz.prog w'=.ok (.value v) w')(hQ:∀ c a w,Q (.panic c) (a.put d v) w->Q (.panic c) a w)(hS:S w)(h:wpAnyH Tryz.prog .any ops Q S fuel (listed.setIfInBounds i true) (a.put d v) w):wpAnyH Tryz.prog .any ops Q S (fuel + 1) listed a w:=by
 simp only[gU,Bool.and_eq_true,decide_eq_true_eq] at hc;obtain⟨⟨⟨⟨⟨h1,h2⟩,h3⟩,h4⟩,h5⟩,h6⟩:=hc;subst h6;exact wpAnyH_take (bT h4) h1 h2 h3 hQ (.inl ⟨h5,hy⟩) hS h
theorem aM(i:Nat)(d:Option Tmp)(v:Value)(T:TypeId)(k g o:Nat)(hc:gU ops listed a i d=true)(ho:(ops.getD i default).op=.load T (.tmp k))(hp:a.eval (.tmp k)=.pointer (some ⟨g,o,none⟩))(hl:∀ w',S w'->(loadVar T ⟨g,o,none⟩).run Tryz.prog w'=.ok v w')(hQ:∀ c a w,Q (.panic c) (a.put d v) w->Q (.panic c) a w)(hS:S w)(h:wpAnyH Tryz.prog .any ops Q S fuel (listed.setIfInBounds i true) (a.put d v) w):wpAnyH Tryz.prog .any ops Q S (fuel + 1) listed a w :=
 aj i d v hc (fun w' hS'=>by
  have:=hl w' hS';simp only[execOp,ho,hp];simp[Instr.loadAt,Instr.sureAddr,Result.andThen,this]) hQ hS h
theorem aV(i:Nat)(d:Option Tmp)(f:FuncId)(args:Array Value)(hc:gu ops listed a i d=true)(hrun:(execOp a.eval (ops.getD i default)).run Tryz.prog w=.ok (.enter f args) w)(hcall:Calls Tryz.prog f args w Qc)(hk:∀ e w',Qc e w'->∃ v,e=.returned v/\S w'/\wpAnyH Tryz.prog .any ops Q S fuel (listed.setIfInBounds i true) (a.put d v) w') :
  wpAnyH Tryz.prog .any ops Q S (fuel + 1) listed a w:=by
 simp only[gu,Bool.and_eq_true,decide_eq_true_eq] at hc;obtain⟨⟨⟨h3,h4⟩,h5⟩,h6⟩:=hc;subst h6;refine wpAnyH_all h3 (by simp) fun j hj => ?_
 obtain rfl:j=i:=by simpa using hj
 refine wpOp_step (bT h4) fun K hK => ?_
 rw[if_pos h5];unfold Oper.wp;rw[hrun];refine hcall.mono fun e w' he => ?_
 obtain⟨v,rfl,hS',hw⟩:=hk e w' he;exact hK _ _ ⟨hS',hw⟩
theorem bj(hr:Region.ready .any ops listed=[])(h:Q .normal a w):wpAnyH Tryz.prog .any ops Q S fuel listed a w:=wpAnyH_done hr h fuel
theorem bF{id:Nat}(hm:Tryz.prog.follows .mixedOrders=true)(hS:S w.drew)(h:wpAnyH Tryz.prog .any ops Q S ops.size (Array.replicate ops.size false) a w.drew):(Code.region id ops true).wp Tryz.prog Q a w :=
 wp_region_held_drew hm hS fun _=>h
end
end
end
section
open Go.RowKit Lim
section
variable {w w':World}{g:Nat}{cs ds:List Value}
structure Box(w:World)(g:Nat)(cs:List Value)(t:TypeId):Prop where
 blk:w.heap[g]? = some (.cells cs.toArray t (0,0))
theorem Box.lt{t:TypeId}(h:Box w g cs t):g < w.heap.size:=lt_of_block h.blk
theorem Box.keep{t:TypeId}(h:Box w g cs t)(hb:Below w.heap.size w w'):Box w' g cs t:=⟨by rw[hb.block g h.lt]; exact h.blk⟩
theorem Box.drew{t:TypeId}(h:Box w g cs t):Box w.drew g cs t:=⟨h.blk⟩
theorem iI(w:World)(cs:List Value)(t:TypeId):Box (w.alloc (.cells cs.toArray t)) w.heap.size cs t:=⟨by
 show (w.heap.push _)[w.heap.size]? = _
 rw[Array.getElem?_push_size]⟩
theorem Box.row{t:TypeId}(h:Box w g cs t):Box (w.setRow g ds.toArray) g ds t:=⟨by rw[setRow_heap w g _ _ _ _ h.blk]⟩
theorem nT{B:Nat}(h:Below B w w')(hB:B<=g)(ds:Array Value):Below B w (w'.setRow g ds) :=
 h.trans ⟨rfl,rfl,rfl,by simp[World.setRow],fun k hk=>setRow_other w' g k ds (by omega)⟩
theorem Box.off{g':Nat}{t:TypeId}(h:Box w g cs t)(hne:g≠g')(hw:∀ k,k≠g'->w'.heap[k]? = w.heap[k]?):Box w' g cs t:=⟨by rw[hw g hne]; exact h.blk⟩
end
section
variable {ops:Array Oper} {Q:Exit->Act->World->Prop} {S:World->Prop} {fuel:Nat} {listed:Array Bool} {a:Act} {w:World}
section
variable {rs:List Nat}
def fj(ops:Array Oper)(a:Act)(i:Nat)(d:Option Tmp):Bool :=
 decide (i < ops.size) && Region.wanted (ops.getD i default) (yielded ops a.tmps) && decide ((ops.getD i default).dst=d)
theorem aN(rs:List Nat)(hr:Region.ready .any ops listed=rs)(hne:rs≠[])(h:AllReadyH Tryz.prog .any ops Q S fuel listed a w rs):wpAnyH Tryz.prog .any ops Q S (fuel + 1) listed a w:=wpAnyH_ready hr hne h
theorem aY:AllReadyH Tryz.prog .any ops Q S fuel listed a w []:=AllReadyH.nil
theorem bN(i:Nat)(d:Option Tmp)(v:Value)(w1:World)(hc:fj ops a i d=true)(hrun:(execOp a.eval (ops.getD i default)).run Tryz.prog w=.ok (.value v) w1)(hS1:S w1)(h:wpAnyH Tryz.prog .any ops Q S fuel (listed.setIfInBounds i true) (a.put d v) w1)(hs:AllReadyH Tryz.prog .any ops Q S fuel listed a w rs):AllReadyH Tryz.prog .any ops Q S fuel listed a w (i :: rs):=by
 simp only[fj,Bool.and_eq_true,decide_eq_true_eq] at hc;obtain⟨⟨h4,h5⟩,h6⟩:=hc;subst h6;refine AllReadyH.cons (bT h4) (fun K hK => ?_) hs;rw[if_pos h5];unfold Oper.wp;rw[hrun]
 show K (a.put (ops.getD i default).dst v) w1
 exact hK.out _ _ hS1 fun _=>h
theorem dx(i:Nat)(w1:World)(hc:fj ops a i none=true)(hrun:(execOp a.eval (ops.getD i default)).run Tryz.prog w=.ok .skip w1)(hS1:S w1)(h:wpAnyH Tryz.prog .any ops Q S fuel (listed.setIfInBounds i true) (a.put none undef) w1)(hs:AllReadyH Tryz.prog .any ops Q S fuel listed a w rs):AllReadyH Tryz.prog .any ops Q S fuel listed a w (i :: rs):=by
 simp only[fj,Bool.and_eq_true,decide_eq_true_eq] at hc;obtain⟨⟨h4,h5⟩,h6⟩:=hc;refine AllReadyH.cons (bT h4) (fun K hK => ?_) hs;rw[if_pos h5];unfold Oper.wp;rw[hrun]
 show K (a.put (ops.getD i default).dst undef) w1
 rw[h6];exact hK.out _ _ hS1 fun _=>h
theorem re(i:Nat)(d:Option Tmp)(T:TypeId)(cs:List Value)(hc:fj ops a i d=true)(hrun:(execOp a.eval (ops.getD i default)).run Tryz.prog w=.ok (.value (.pointer (some ⟨w.heap.size,0,none⟩))) (w.alloc (.cells cs.toArray T)))(hk:∀ V,Box V w.heap.size cs T->Below w.heap.size w V->S V/\wpAnyH Tryz.prog .any ops Q S fuel (listed.setIfInBounds i true) (a.put d (.pointer (some ⟨w.heap.size,0,none⟩))) V)(hs:AllReadyH Tryz.prog .any ops Q S fuel listed a w rs):AllReadyH Tryz.prog .any ops Q S fuel listed a w (i :: rs):=by
 obtain⟨h1,h2⟩:=hk _ (iI w cs T) (ae w _);exact bN i d _ _ hc hrun h1 h2 hs
end
end
end
section
open Go.RowKit Lim
section
variable {w:World}{g m:Nat}{l r:List Int}{ops:Array Oper}{rest:List Oper}{V:Int}{ao:Option Addr}
theorem lp:(Tryz.prog.info? 5).map (fun i=>(i.zero,i.size,i.bytes))=some (some (.int .u8 0),1,1):=by kernel_rfl
theorem cM:Tryz.prog.underlying 96=some (.slice 5):=by kernel_rfl
def sH(w:World)(g:Nat)(l:List Int):Prop:=w.heap[g]? = some (.cells (l.map (Value.int .u8)).toArray 5 (0,0))
theorem sH.at(h:sH w g l):AtB w (some ⟨g,0,none⟩) g 0 l :=
 ⟨.inr rfl,fun i hi=>by
  unfold sH at h;simp only[World.cell?,h];simp[cn hi,hi]⟩
theorem sH.free(h:sH w g l)(o n:Nat):dK w g o n:=by
 intro i _;unfold sH at h;simp[World.frozen?,h]
theorem vu(n:Nat):madeCells (Value.int .u8 0).cells n=((List.replicate n 0).map (Value.int .u8)).toArray:=by
 apply Array.ext
 ·simp[size_madeCells]
 ·intro j h1 h2;simp[madeCells,Value.cells,Nat.mod_one]
theorem qm{o:Oper}{a:Act}{Q:Exit->Act->World->Prop}(hg:o.guard=none)(l c:Operand)(hop:o.op=Op.makeSlice 96 l c)(n:Nat)(L C:Int)(hl:a.eval l=.int .i64 L)(hc:a.eval c=.int .i64 C)(hL:L=(n:Int))(hC:C=(n:Int))(hn:n<=17592186044416)(hK:∀ w',sH w' w.heap.size (List.replicate n 0)->Below w.heap.size w w'->w'.heap.size=w.heap.size + 1->wpList Tryz.prog ops Q rest (a.put o.dst (.slice (some ⟨w.heap.size,0,none⟩) n n)) w') :
  wpList Tryz.prog ops Q (o :: rest) a w:=by
 obtain⟨i,hi,hz,hs,hb⟩:=info_parts lp;refine wpList_plain hg fun K hK' => ?_
 have hrun:=run_make (P:=Tryz.prog) w 96 5 i (.int .u8 0) cM hi hz .i64 .i64 (n:Int) (n:Int) (by omega) (by omega) (by rw[hb]; omega) (by omega);subst hL;subst hC;unfold Oper.wp;simp only[execOp,hop,hl,hc];simp[hrun,Result.andThen];refine hK' _ _ (hK _ ?_ ?_ ?_)
 ·show (w.heap.push _)[w.heap.size]? = _
  rw[Array.getElem?_push_size,hs,Nat.mul_one,vu]
 ·exact(Below.refl _ _).alloc (Nat.le_refl _) _
 ·simp
theorem mN(V:Int)(hV:0<=V)(k:Nat):V % 256 ^ (k + 1)=(V / 256 ^ k % 256) * 256 ^ k + V % 256 ^ k:=by
 obtain⟨v,rfl⟩:=Int.eq_ofNat_of_zero_le hV
 have e:∀ j:Nat,(256:Int) ^ j=((256 ^ j:Nat):Int):=fun j=>by rw[Int.natCast_pow]; rfl
 rw[e,e];have:=Nat.mod_mul (x:=v) (a:=256 ^ k) (b:=256);rw[<- Nat.pow_succ] at this
 have h2:((v % 256 ^ (k + 1):Nat):Int)=((v % 256 ^ k + 256 ^ k * (v / 256 ^ k % 256):Nat):Int):=by rw[this]
 rw[Int.natCast_add,Int.natCast_mul] at h2;simp only[Int.natCast_emod,Int.natCast_ediv] at h2;rw[h2,Int.add_comm,Int.mul_comm]; rfl
theorem kY(hV:0<=V)(h:∀ i,i < r.length->nth r (r.length - 1 - i)=V / 256 ^ i % 256):∀ k,k<=r.length->bS (r.drop (r.length - k))=V % 256 ^ k
 | 0,_=>by rw[Nat.sub_zero,List.drop_length]; simp[bS]
 | k + 1,hk=>by
  have ih:=kY hV h k (by omega);rw[show r.length - (k + 1)=r.length - 1 - k from by omega,nV (by omega),show r.length - 1 - k + 1=r.length - k from by omega,ih,h k (by omega),show r.length - 1 - (r.length - 1 - k)=k from by omega,mN V hV k]
theorem byte_at(wl:Words l)(i:Nat)(hi:i / 8 < l.length):nth l (i / 8) / 2 ^ (8 * (i % 8)) % 256=val l / 256 ^ i % 256:=by
 have e2:=bJ l (i / 8) (by omega);rw[List.drop_eq_getElem_cons hi,val,<- cn hi] at e2;have h1:=aO (wl.take (i / 8));have h2:=dF (wl.take (i / 8));rw[List.length_take,Nat.min_eq_left (by omega)] at h2;have hp:=pow_pos (i / 8)
 have hS:(0:Int) < 2 ^ (8 * (i % 8)):=Int.pow_pos (by decide)
 have hB:(18446744073709551616:Int)=2 ^ (8 * (i % 8)) * (256 * 2 ^ (56 - 8 * (i % 8))):=by
  rw[show (256:Int)=2 ^ 8 from rfl,<- Int.pow_add,<- Int.pow_add,show 8 * (i % 8) + (8 + (56 - 8 * (i % 8)))=64 from by omega]; rfl
 rw[kz,<- Int.ediv_ediv_of_nonneg (Int.le_of_lt hp),e2,Int.add_mul_ediv_left _ _ (by omega),Int.ediv_eq_zero_of_lt h1 h2,Int.zero_add];generalize nth l (i / 8)=x at *;generalize val (l.drop (i / 8 + 1))=y at *
 conv=>rhs; rw[hB]
 rw[Int.mul_assoc,Int.add_mul_ediv_left _ _ (by omega),Int.mul_assoc,Int.add_mul_emod_self_left]
structure l8(V:Int)(m k:Nat)(r:List Int):Prop where
 len:r.length=m
 oct:bC r
 dig:∀ i,i < k->nth r (m - 1 - i)=V / 256 ^ i % 256
theorem l8.step{k:Nat}{x:Int}(h:l8 V m k r)(hk:k < m)(hx:x=V / 256 ^ k % 256):l8 V m (k + 1) (r.set (m - 1 - k) x):=by
 have hl:=h.len;refine⟨by simp[hl],fun y hy => ?_,fun i hi => ?_⟩
 ·rcases List.mem_or_eq_of_mem_set hy with e | e
  ·exact h.oct y e
  ·subst e; rw[hx]; exact⟨Int.emod_nonneg _ (by decide),Int.emod_lt_of_pos _ (by decide)⟩
 ·rw[dH (by omega)];by_cases e:i=k
  ·subst e; rw[if_pos rfl]; exact hx
  ·rw[if_neg (by omega)]; exact h.dig i (by omega)
theorem l8.done(h:l8 V m m r)(hV:0<=V)(h1:V < 256 ^ m)(h2:m≠0->256 ^ (m - 1)<=V):IsB r V:=by
 have hl:=h.len;have hv:=kY hV (r:=r) (fun i hi=>by rw[hl]; exact h.dig i (by omega)) m (by omega);rw[hl,Nat.sub_self,List.drop_zero,Int.emod_eq_of_lt hV h1] at hv;refine⟨h.oct,fun hne => ?_,hv⟩
 have hm:m≠0:=fun e=>hne (List.eq_nil_of_length_eq_zero (by omega))
 have hd:=h.dig (m - 1) (by omega);rw[show m - 1 - (m - 1)=0 from by omega] at hd;rw[hd]
 have hp:(0:Int) < 256 ^ (m - 1):=Int.pow_pos (by decide)
 have q1:1<=V / 256 ^ (m - 1):=by rw[Int.le_ediv_iff_mul_le hp]; have:=h2 hm; omega
 have q2:V / 256 ^ (m - 1) < 256:=by
  rw[Int.ediv_lt_iff_lt_mul hp,Int.mul_comm,<- Int.pow_succ,show (m - 1).succ=m from by omega]; exact h1
 rw[Int.emod_eq_of_lt (by omega) q2]; omega
theorem oB(hV:0<=V):V < 256 ^ ((bitLen V.toNat + 7) / 8)/\((bitLen V.toNat + 7) / 8≠0->256 ^ ((bitLen V.toNat + 7) / 8 - 1)<=V):=by
 obtain⟨v,rfl⟩:=Int.eq_ofNat_of_zero_le hV;rw[Int.toNat_natCast];have hs:=bitLen_spec v
 have e:∀ j:Nat,(256:Int) ^ j=((2 ^ (8 * j):Nat):Int):=fun j=>by rw[Nat.pow_mul,Int.natCast_pow]; rfl
 rw[e,e];constructor
 ·have:=Nat.pow_le_pow_right (n:=2) (by decide) (show bitLen v<=8 * ((bitLen v + 7) / 8) by omega);have h1:=hs.1;omega
 ·intro hm
  have hv0:v≠0:=by intro e; subst e; simp[bitLen] at hm
  have:=Nat.pow_le_pow_right (n:=2) (by decide) (show 8 * ((bitLen v + 7) / 8 - 1)<=bitLen v - 1 by omega);have h1:=hs.2 hv0;omega
theorem Cd.of{w':World}{n c b o:Nat}(hn:n=l.length)(h1:n<=c)(h2:w.heap.size<=b)(h3:AtB w' ao b o l)(h4:dK w' b o n):Cd w w' (.slice ao n c) l:=by
 subst hn; exact⟨ao,b,o,c,rfl,h1,h2,h3,h4⟩
theorem vN(ao:Option Addr)(n c b o:Nat)(l:List Int)(w:World)(hl:l.length=n)(hc:n<=c)(hbig:n<=1099511627776)(wl:Words l)(ha:At w ao b o l) :
  Calls Tryz.prog 230 #[.slice ao n c] w fun e w'=>∃ v r,e=.returned v/\Cd w w' v r/\IsB r (val l)/\r.length=(bitLen (val l).toNat + 7) / 8/\r.length<=8 * n/\Below w.heap.size w w':=by
 have hV:=aO wl;obtain⟨hB1,hB2⟩:=oB hV;have t1:=qW ao n c b o l w hl hc hbig wl ha
 have hb64:bitLen (val l).toNat<=64 * n:=by
  have h1:=dF wl;rw[hl,bpow] at h1;have h2:=(bitLen_spec (val l).toNat).2;by_cases c:bitLen (val l).toNat<=64 * n
  ·exact c
  ·have h3:(val l).toNat≠0:=by intro e; rw[e] at c; simp[bitLen] at c
   have h4:=Nat.pow_le_pow_right (n:=2) (by decide) (show 64 * n<=bitLen (val l).toNat - 1 by omega);have:=h2 h3;omega
 obtain⟨m,hm⟩:∃ m:Nat,((bitLen (val l).toNat:Int) + 7) / 8=m:=⟨(bitLen (val l).toNat + 7) / 8,by omega⟩
 have hm':(bitLen (val l).toNat + 7) / 8=m:=by omega
 rw[hm'] at hB1 hB2 ⊢;generalize bitLen (val l).toNat=L at *;have HM:=(show Hid ((L + 7) / 8=m) from hm')
 have hm8:m<=8 * n:=by omega
 clear hm';go_enter Tryz.func230,Tryz.ntmps230;go_wp2_with fail;refine t1.mono ?_
 rintro e w1 ⟨rfl,hb1⟩;have ha1:=ha.keep hb1;have hsz1:=hb1.size;clear t1 ha;go_wp2_with (at_make; refine qm rfl _ _ rfl m _ _ rfl rfl (by omega) (by omega) (by omega) ?_; intro w2 hrow hbel hsz);have ha2:=ha1.keep hbel
 have hne:l=[]\/b≠w1.heap.size:=by
  rcases ha1.lt with e | e
  ·exact .inl e
  ·exact .inr (by omega)
 clear ha1;go_loopw [12] (fun ti wr=>∃ (k:Nat) (r:List Int),k<=m/\ti=.int .i64 k/\l8 (val l) m k r/\AtB wr (some ⟨w1.heap.size,0,none⟩) w1.heap.size 0 r/\Wr w1.heap.size 0 m w2 wr) (fun ti _=>m - (intOf ti).toNat)
 case atStart=>exact⟨0,_,Nat.zero_le _,rfl,⟨by simp,fun x hx=>by rw[List.eq_of_mem_replicate hx]; decide,fun i hi=>by omega⟩,hrow.at,Wr.refl _ _ _ _⟩
 case round =>
  obtain⟨k,r,hk,rfl,hinv,hat,hwr⟩:=hrel;have hlen:=hinv.len;by_cases hlt:k < m
  ·obtain⟨i,hi⟩:∃ i:Nat,(k:Int) / 8=i:=⟨k / 8,by omega⟩
   obtain⟨j,hj⟩:∃ j:Nat,(k:Int) % 8=j:=⟨k % 8,by omega⟩
   obtain⟨h,hh⟩:∃ h:Nat,(m:Int) - 1 - k=h:=⟨m - 1 - k,by omega⟩
   have hi1:(i:Int) < n:=by omega
   have hh1:(h:Int) < m:=by omega
   have hj1:j < 8:=by omega
   rcases ha2.loc with e | rfl
   ·subst e; simp at hl; omega
   have hcz:=(ha2.wr hwr hne).cell i (by omega);have hfr:=hwr.free (hrow.free 0 m) h (by omega);have hco:=hat.cell h (by omega);rw[Nat.zero_add] at hfr hco;have hx:=wl.nth i;have hby:=byte_at wl k (by omega);rw[show k / 8=i from by omega,show k % 8=j from by omega] at hby
   have HS:Hid (l8 (val l) m (k + 1) (r.set h (nth l i / 2 ^ (8 * j) % 256))):=by
    have:=hinv.step (x:=nth l i / 2 ^ (8 * j) % 256) hlt hby
    rwa [show m - 1 - k=h from by omega] at this
   have HA:=(show Hid _ from hat)
   have HW:=(show Hid _ from hwr)
   clear hat hwr hinv hrow ha2 wl hby
   generalize nth l i=x at *;go_wp2_with fail;rw[Nat.mul_comm j 8];refine⟨⟨k + 1,_,by omega,by go_num,HS.out,?_,?_⟩,by simp[intOf]; omega⟩
   ·have:=HA.out.setCell (i:=h) (by omega) (x / 2 ^ (8 * j) % 256);rwa [Nat.zero_add] at this
   ·exact HW.out.setCell (by omega) (by omega) _
  ·have hkn:k=m:=by omega
   subst hkn;have HI:=hinv.done hV hB1 hB2;have hfz:=hwr.free (hrow.free 0 k);have HB:=(hb1.trans (hbel.mono hsz1)).trans (hwr.below hsz1);clear hinv hrow hwr hbel ha2 hb1;go_wp2;go_ret;exact⟨_,r,rfl,Cd.of hlen.symm (Nat.le_refl _) hsz1 hat hfz,HI,by omega,by omega,HB⟩
end
end
end Go.Proofs.YthfepflplbahkaaGreatDoor
